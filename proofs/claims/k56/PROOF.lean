import PyProof.Rows.All
import Wide.All
import OpenK.AllK
import Wide.FinOn
import HandS.List
import HandS.SetTxt0
import HandS.SetFor
import HandS.Strs
import HandS.Iter
import HandS.Walk
import KE.GoesMore
import KE.GoesZip
import HandS.Text
import PyProof.ListStr
import KE.KRevSl
import HandS.ForMost
import KE.KeyNested
import KE.KDictKeyed
import PyProof.DictMoreH
import PyProof.DictRoadsH
import HandS.SetKeys
import HandS.SortKw
import HandS.RaiseMore
import KE.SortKeyHeap
import KE.KDictCopyH
import KE.KDictSum
import KE.SortData
import HandS.More
import HandS.DictComp
import PyProof.DictFindH
import KE.GoesEnum
import HandS.Codes
import HandS.IsInst
import KE.KCallOwn
import PyProof.InstNe
import PyProof.FString2
import KE.KExcSuper
import HandS.Nested
import HandS.Exc
import HandS.ExcOwn
import HandS.ExcInit
import KE.KExcIs
import HandS.FStr
import HandS.ExcField
import HandS.HeadHook1
import HandS.HeadHook2
import HandS.TupSets
import HandS.SetBool
import KE.LtSeq
import HandS.ReplaceDef
import HandS.ReplaceLit
import HandS.Defaults
import HandS.Flow
import HandS.Small
import HandS.WordsExc
import HandS.Conv
import HandS.NoneIn
import HandS.TupAny
import HandS.RevRange
import HandS.ReplaceList
import HandS.Style
import KE.KStateDown
import Lean
import HandS.Head0
import HandS.Head1
import HandS.Head2
import HandS.HeadEnd
import PySem.Challenge.RW_downwords_k56_whole_expressions_put_toge
set_option Elab.async false
set_option linter.all false
set_option maxRecDepth 100000
set_option maxHeartbeats 2000000
/-! Sets of texts: set(list of texts), set(text), sorted(set). -/
namespace TX
open PySem PySem.Spec PyProof.Rows L2 PySem.Froz

/-! ### lists -/
theorem perm_of_sub {α : Type} [DecidableEq α] : ∀ (l ks : List α), l.Nodup → (∀ x ∈ l, x ∈ ks) → ks.length ≤ l.length → ks.Perm l
  | [], ks, _, _, hl => by
    have e : ks = [] := List.length_eq_zero_iff.mp (Nat.le_zero.mp hl)
    rw [e]
  | x :: l, ks, nd, sub, hl => by
    obtain ⟨hx, nd'⟩ := List.nodup_cons.mp nd
    have hk : x ∈ ks := sub x List.mem_cons_self
    have p1 : ks.Perm (x :: ks.erase x) := List.perm_cons_erase hk
    have l1 : (ks.erase x).length = ks.length - 1 := List.length_erase_of_mem hk
    have sub' : ∀ y ∈ l, y ∈ ks.erase x := fun y hy => by
      have ne : y ≠ x := fun e => hx (e ▸ hy)
      exact (List.mem_erase_of_ne ne).mpr (sub y (List.mem_cons_of_mem _ hy))
    have p2 := perm_of_sub l (ks.erase x) nd' sub' (by rw [l1]; rw [List.length_cons] at hl; omega)
    exact p1.trans (p2.cons x)

/-! ### the set's state -/
structure Ok (P : Program) (w : World) (D : SD) (l : List Str) : Prop where
  tx : TxOk P w D l
  up : Ris D.2.2.place.toList
  led : w.params.followText "set-order" = true ∨ D.2.2.led = true
  nd : l.Nodup
def At (P : Program) (w : World) (h : Heap) (a : Addr) (l : List Str) : Prop := ∃ D : SD, h.get? a = some (sObj "set" D) ∧ Ok P w D l

section
variable {P : Program} {w : World} {A : Around} {E : Value → Shared → Prop} {s : Shared}
theorem At.move {h h' : Heap} {a : Addr} {l : List Str} (x : At P w h a l) (k : ∀ o, h.get? a = some o → h'.get? a = some o) : At P w h' a l := by
  obtain ⟨D, hD, o⟩ := x
  exact ⟨D, k _ hD, o⟩
theorem tail_up {ep : Nat} {es : Array (Int × Value)} {t : SetTable} {b : Bool} (r : Ris t.place.toList) : Ris (tailTx ep es t b).2.2.place.toList := by
  unfold tailTx
  by_cases c : (!b && t.tooFull) = true
  · rw [if_pos c]
    exact relayAll_ris _ _ _
  · rw [if_neg c]
    exact r
theorem tail_led {ep : Nat} {es : Array (Int × Value)} {t : SetTable} {b : Bool} : (tailTx ep es t b).2.2.led = t.led := by
  unfold tailTx
  by_cases c : (!b && t.tooFull) = true
  · rw [if_pos c]
    exact relayAll_led _ _ _
  · rw [if_neg c]
def dull (t : SetTable) : SetTable := if t.plain = true then { t with plain := false } else t
theorem dull_place (t : SetTable) : (dull t).place = t.place := by
  unfold dull
  by_cases c : t.plain = true
  · rw [if_pos c]
  · rw [if_neg c]
theorem dull_led (t : SetTable) : (dull t).led = t.led := by
  unfold dull
  by_cases c : t.plain = true
  · rw [if_pos c]
  · rw [if_neg c]
theorem Ok.add {D : SD} {l : List Str} {k : Str} (u : Tok) (o : Ok P w D l) (hk : k ∉ l) : Ok P w (addTx (hashStr w k) (.str k u) D) (k :: l) := by
  obtain ⟨es, ep, t⟩ := D
  have r1 : Ris (layNew t es (hashStr w k) (.str k u)).2.1.place.toList := layNew_ris t es _ _ o.up
  have l1 : (layNew t es (hashStr w k) (.str k u)).2.1.led = t.led := layNew_led t es _ _
  have e : addTx (hashStr w k) (.str k u) (es, ep, t) = tailTx ep (layNew t es (hashStr w k) (.str k u)).1 (dull (layNew t es (hashStr w k) (.str k u)).2.1) (layNew t es (hashStr w k) (.str k u)).2.2.1 := rfl
  refine ⟨add_ok u o.tx, ?_, ?_, List.nodup_cons.mpr ⟨hk, o.nd⟩⟩
  · rw [e]
    exact tail_up (by rw [dull_place]; exact r1)
  · refine o.led.imp id fun z => ?_
    rw [e, tail_led, dull_led, l1]
    exact z
theorem add_old {a : Addr} {T : String} {D : SD} {l : List Str} {k : Str} {u : Tok} {Q : Bool → Shared → Prop} (ho : s.heap.get? a = some (sObj T D)) (o : TxOk P w D l) (hk : k ∈ l) (hb : l.length < scanBound) (h : Q false s) :
    wpAny (model P w) A (setAddHashed a (.str k u) (hashStr w k)) Q E s := by
  obtain ⟨es, ep, t⟩ := D
  have dd : (sObj T (es, ep, t)).data = .set es ep t := rfl
  have ft : t.fits es.size = true := o.fit
  have el : ElemsOf (strKind P w) es.toList := o.el
  have z : es.size = l.length := o.sz
  have b0 : es.size < scanBound := by omega
  have ky : (strKind P w).is k (.str k u) = true := is_str k u
  obtain ⟨e0, he0, q0⟩ := (o.mem k).mp hk
  unfold setAddHashed setAddHashedIn
  refine wpAny_holding (wpAny_bind (wpAny_setState_of ho dd ft ?_))
  dsimp only
  rw [byScan_of rfl b0 el]
  simp only [↓reduceIte]
  unfold setAddByScan
  refine wpAny_bind (wpAny_bind (wpAny_rule (wpAny_bind (wpAny_setScan_of (knd := strKind P w) (k := k) ky ho dd ft el ?_))))
  cases fi : List.findIdx? (fun e => (strKind P w).is k e.2) es.toList with
  | some j =>
    dsimp only
    exact wpAny_pure (wpAny_pure h)
  | none =>
    have c := List.findIdx?_eq_none_iff.mp fi e0 he0
    rw [q0] at c
    cases c

/-! ### the loop that fills it -/
theorem fill {I : Addr} {fp wr : List Addr} {G : Array GenState → Array GenState → Prop} {n : Nat} {Pv : Nat → Value → Prop} {St : Nat → Shared → Prop} {R : Result → Shared → Prop}
    (W : WalksS P w A.in1 I fp wr G n Pv St) (a : Addr) (ha : a ∉ fp) (xs : List Str) (hn : n = xs.length) (hb : xs.length + 1 < scanBound) (hv : ∀ i v, Pv i v → ∃ k t, xs[i]? = some k ∧ v = .str k t) :
    ∀ (m i : Nat) (s : Shared), n - i = m → i ≤ n → St i s → (∃ l, At P w s.heap a l ∧ l.length ≤ i ∧ ∀ k, k ∈ l ↔ k ∈ xs.take i) →
      (∀ s' l, Moved (a :: wr) G s s' → At P w s'.heap a l → (∀ k, k ∈ l ↔ k ∈ xs) → l.length ≤ n → R (.ok (.ret .none)) s') →
      codeAny (model P w) A (.builtin "set.update.loop" ⟨[.ref a, .ref I], []⟩) R s := by
  have aw : a ∉ wr := fun q => ha (W.sub _ q)
  have ww : ∀ b ∈ wr, b ∈ a :: wr := fun b q => List.mem_cons_of_mem _ q
  intro m
  induction m with
  | zero =>
    intro i s em hi st ⟨l, hA, hl, mem⟩ hR
    obtain rfl : i = n := by omega
    refine codeAny_builtin F.entry_set_update_loop ?_
    rw [Around.under_plainId F.plain_set_update_loop _]
    show wpAny _ A.in1 (pyNext (.ref I) >>= _) _ _ s
    refine wpAny_bind (W.done s _ _ st fun s' mv => ?_)
    show wpAny _ A.in1 (ret Value.none) _ _ s'
    have et : xs.take i = xs := List.take_of_length_le (by omega)
    rw [et] at mem
    exact wpAny_pure (hR s' l (mv.mono ww) (hA.move fun o e => mv.heap a o aw e) mem hl)
  | succ m ih =>
    intro i s em hi st ⟨l, hA, hl, mem⟩ hR
    have lt : i < n := by omega
    refine codeAny_builtin F.entry_set_update_loop ?_
    rw [Around.under_plainId F.plain_set_update_loop _]
    show wpAny _ A.in1 (pyNext (.ref I) >>= _) _ _ s
    refine wpAny_bind (W.item i s _ _ lt st fun v s1 hP st1 mv => ?_)
    obtain ⟨k, t, hk, rfl⟩ := hv i v hP
    obtain ⟨D, hD, oD⟩ := hA.move (h' := s1.heap) fun o e => mv.heap a o aw e
    show wpAny _ A.in1 (holding [Value.str k t] (setAdd a (.str k t)) >>= _) _ _ s1
    refine wpAny_bind (wpAny_holding ?_)
    unfold setAdd
    refine wpAny_holding (wpAny_bind ((strKind P w).pyHash (k := k) (is_str k t) ?_))
    have tk : xs.take (i + 1) = xs.take i ++ [k] := by rw [List.take_add_one, hk] <;> rfl
    by_cases kl : k ∈ l
    · refine add_old (s := { s1 with toks := s1.toks + 1 }) hD oD.tx kl (by omega) ?_
      refine wpAny_pure ⟨plainId_quiet F.plain_set_update_loop _, ih (i + 1) _ (by omega) lt (W.frame _ s1 _ _ st1 (Nat.le_succ _) fun b _ o e => e) ⟨l, ⟨D, hD, oD⟩, by omega, fun j => ?_⟩ fun s2 l2 mv2 hA2 mem2 hl2 => ?_⟩
      · rw [tk, List.mem_append, List.mem_singleton, ← mem j]
        exact ⟨.inl, fun q => q.elim id fun e => e ▸ kl⟩
      · exact hR s2 l2 (Moved.trans W.gtrans ((mv.mono ww).then_heap (Nat.le_succ _) fun b o _ e => e) mv2) hA2 mem2 hl2
    · refine add_x (s := { s1 with toks := s1.toks + 1 }) hD oD.tx kl (by omega) ?_
      have hg : (s1.heap.update a (fun _ => sObj "set" (addTx (hashStr w k) (.str k t) D))).get? a = some (sObj "set" (addTx (hashStr w k) (.str k t) D)) := get_upd _ hD rfl
      have ot : ∀ b o, b ≠ a → s1.heap.get? b = some o → (s1.heap.update a (fun _ => sObj "set" (addTx (hashStr w k) (.str k t) D))).get? b = some o :=
        fun b o ne e => (Heap.get?_update_other _ _ (Ne.symm ne)).trans e
      refine wpAny_pure ⟨plainId_quiet F.plain_set_update_loop _, ih (i + 1) _ (by omega) lt (W.frame _ s1 _ _ st1 (Nat.le_succ _) fun b q o e => ?_) ⟨k :: l, ⟨_, hg, oD.add t kl⟩, by rw [List.length_cons]; omega, fun j => ?_⟩ fun s2 l2 mv2 hA2 mem2 hl2 => ?_⟩
      · exact ot b o (fun z => ha (z ▸ q)) e
      · rw [tk, List.mem_append, List.mem_singleton, ← mem j, List.mem_cons]
        exact Or.comm
      · refine hR s2 l2 (Moved.trans W.gtrans ((mv.mono ww).then_heap (Nat.le_succ _) fun b o q e => ?_) mv2) hA2 mem2 hl2
        exact ot b o (fun z => q (z ▸ List.mem_cons_self)) e
end

/-! ### set(v) -/
abbrev fresh (w : World) : Obj := { cls := .type "set", dict := none, data := .set #[] 0 (.fresh 0 0 (!w.params.followText "set-order")) }
theorem fresh_ok {P : Program} {w : World} : Ok P w (#[], 0, .fresh 0 0 (!w.params.followText "set-order")) [] where
  tx := TxOk.nil (by rfl)
  up := List.Pairwise.nil
  led := by
    show _ ∨ (!w.params.followText "set-order") = true
    cases w.params.followText "set-order"
    · exact .inr rfl
    · exact .inl rfl
  nd := List.nodup_nil
theorem at_fresh {P : Program} {w : World} {h : Heap} {a : Addr} (e : h.get? a = some (fresh w)) : At P w h a [] := ⟨(#[], 0, .fresh 0 0 (!w.params.followText "set-order")), e, fresh_ok⟩

section
variable {P : Program} {w : World} {A : Around} {E : Value → Shared → Prop} {s : Shared}
/-- what set(v) leaves: a new object, all else as it was -/
def Left (P : Program) (w : World) (s : Shared) (xs : List Str) (s' : Shared) : Prop :=
  ∃ h' tk l, s' = { s with heap := h', toks := tk } ∧ At P w h' s.heap.objs.size l ∧ (∀ k, k ∈ l ↔ k ∈ xs) ∧ l.length ≤ xs.length ∧ ∀ b o, s.heap.get? b = some o → h'.get? b = some o
set_option maxHeartbeats 4000000 in
theorem call_set_of {v : Value} {xs : List Str} {Q : Value → Shared → Prop}
    (hI : ∀ A' : Around, A'.handled = A.handled → wpAny (model P w) A' (Builtin.«set.__init__» ⟨[.ref s.heap.objs.size, v], []⟩) (fun f s2 => f = .done (.ret .none) ∧ Left P w s xs s2) E { s with heap := s.heap.push (fresh w) })
    (h : ∀ s', Left P w s xs s' → Q (.ref s.heap.objs.size) s') :
    wpAny (model P w) A (call (.type "set") [v]) Q E s := by
  obtain ⟨c, tl, hmro⟩ := F.called_set.mro
  have hmade := F.called_set.made
  have hsub := F.called_set.sub
  refine wpAny_call (codeAny_of_tree ?_)
  show wpAny _ _ (callAny (.type "set") _) _ _ _
  refine wpAny_pure ⟨Code.quiet_builtin _ (by decide +kernel), codeAny_builtin F.entry_type_call ?_⟩
  rw [Around.under_plain (weight_type_call_type "set" [v] []) rfl]
  have h1 := F.called_set.notType
  have h2 := F.called_set.canCreate
  have hct := F.typeCall_set_1 v
  repeat (any_goals (first | assumption | wp_step))
  refine codeAny_mono (code_set_led1 v (E := E) (Q₁ := fun obj s₁ => obj = .ref s.heap.objs.size ∧ s₁ = { s with heap := s.heap.push (fresh w) }) ⟨rfl, rfl⟩) fun r s₁ hr => ?_
  cases r with
  | error e => exact hr
  | ok fl =>
    cases fl with
    | ret obj =>
      obtain ⟨rfl, rfl⟩ := hr
      have hS : (s.heap.push (fresh w)).get? s.heap.objs.size = some (fresh w) := Heap.get?_push_size _ rfl
      have hT : Shared.TypeIs { s with heap := s.heap.push (fresh w) } (.ref s.heap.objs.size) "set" := ⟨_, hS, rfl⟩
      have hli := F.called_set.init.lookup
      have hbi := F.called_set.init.bind (.ref s.heap.objs.size)
      repeat (any_goals (first | assumption | wp_step))
      refine codeAny_mono (codeAny_call_builtin (R := wants (fun r s₂ => r = .none ∧ Left P w s xs s₂) E) F.called_set.init.plain F.entry_set_init (check_set_init_1 hT ?_)) fun r₂ s₂ hr₂ => ?_
      · refine wpAny_mono (hI A.in1.in1 (by simp)) (fun f s2 q => ?_) fun e s2 q => q
        obtain ⟨rfl, q⟩ := q
        exact ⟨rfl, q⟩
      · cases r₂ with
        | error e => exact hr₂
        | ok fl₂ =>
          cases fl₂ with
          | ret r =>
            obtain ⟨rfl, hL⟩ := hr₂
            repeat (any_goals (first | assumption | wp_step))
            exact h _ hL
          | _ => exact hr₂.elim
    | _ => exact hr.elim
theorem left_of {a : Addr} {wr : List Addr} {xs l : List Str} {s s1 s' : Shared} (ea : a = s.heap.objs.size) (hw : ∀ b ∈ wr, s.heap.objs.size ≤ b) (k1 : ∀ b o, s.heap.get? b = some o → s1.heap.get? b = some o)
    (eg : s1.gens = s.gens) (ed : s1.drawn = s.drawn) (eo : s1.os = s.os) (mv : Moved (a :: wr) (fun x y => y = x) s1 s') (hA : At P w s'.heap a l) (mem : ∀ k, k ∈ l ↔ k ∈ xs) (hl : l.length ≤ xs.length) : Left P w s xs s' := by
  obtain ⟨h', g', d', tk', os'⟩ := s'
  have e1 : g' = s.gens := mv.gens.trans eg
  have e2 : d' = s.drawn := mv.drawn.trans ed
  have e3 : os' = s.os := mv.os.trans eo
  subst e1 e2 e3 ea
  refine ⟨h', tk', l, rfl, hA, mem, hl, fun b o e => ?_⟩
  have lt : b < s.heap.objs.size := Heap.lt_size e
  refine mv.heap b o (fun z => ?_) (k1 b o e)
  rcases List.mem_cons.mp z with z | z
  · exact absurd z (Nat.ne_of_lt lt)
  · exact absurd (hw b z) (Nat.not_le_of_lt lt)
set_option maxHeartbeats 4000000 in
theorem init_list {l : Addr} {items : Array Value} {xs : List Str} (hh : A.handled = none) (hl : s.heap.IsList l items) (hi : StrsAre items.toList xs) (hb : xs.length + 1 < scanBound) :
    wpAny (model P w) A (Builtin.«set.__init__» ⟨[.ref s.heap.objs.size, .ref l], []⟩) (fun f s2 => f = .done (.ret .none) ∧ Left P w s xs s2) E { s with heap := s.heap.push (fresh w) } := by
  have hsz : xs.length = items.size := by rw [← StrsAre.len_eq hi, Array.length_toList]
  have hv : ∀ (i : Nat) (v : Value), items[i]? = some v → ∃ k t, xs[i]? = some k ∧ v = .str k t := fun i v q => by
    have hi' : i < xs.length := by rw [hsz]; exact (Array.getElem?_eq_some_iff.mp q).1
    obtain ⟨t, e⟩ := SS.strs_at hi i v (by rw [Array.getElem?_toList]; exact q)
    refine ⟨xs[i], t, List.getElem?_eq_getElem hi', ?_⟩
    rw [e, List.getD_eq_getElem?_getD, List.getElem?_eq_getElem hi'] <;> rfl
  have hS : (s.heap.push (fresh w)).get? s.heap.objs.size = some (fresh w) := Heap.get?_push_size _ rfl
  have hT : Shared.TypeIs { s with heap := s.heap.push (fresh w) } (.ref s.heap.objs.size) "set" := ⟨_, hS, rfl⟩
  obtain ⟨ol, hol, hcl, nl, hdl⟩ := id hl
  obtain ⟨ocls, odict, odata, oslots⟩ := ol
  simp only at hcl hdl
  subst hcl; subst hdl
  have hol1 : (s.heap.push (fresh w)).get? l = some { cls := .type "list", dict := odict, data := .seq items nl, slots := oslots } := Heap.get?_push_of_some _ hol
  have f1 := F.sub_list_set
  have f2 := F.sub_list_frozenset
  have f3 : (Value.type "list" == Value.type "dict") = false := by decide
  have hl1 : (s.heap.push (fresh w)).IsList l items := ⟨_, hol1, rfl, nl, rfl⟩
  have lS : l < s.heap.objs.size := Heap.lt_size hol
  have nI : l ≠ (s.heap.push (fresh w)).objs.size := by
    rw [Heap.size_push]
    exact Nat.ne_of_lt (Nat.lt_succ_of_lt lS)
  have nS : s.heap.objs.size ∉ [(s.heap.push (fresh w)).objs.size, l] := by
    rw [Heap.size_push]
    intro q
    rcases List.mem_cons.mp q with q | q
    · exact absurd q (Nat.ne_of_lt (Nat.lt_succ_self _))
    · exact absurd (List.mem_singleton.mp q) (Nat.ne_of_gt lS)
  have z1 : (s.heap.push (fresh w)).objs.size = s.heap.objs.size + 1 := Heap.size_push ..
  unfold Builtin.«set.__init__» noKeywords Builtin.Frozenset.updateFrom
  generalize ePI : pyIter = PI
  wp_walk
  subst ePI
  refine wpAny_pyIter_list hl1 ?_
  refine wpAny_bind (wpAny_runValue ?_)
  refine fill ((Walks.list (by simp [hh]) _ l nI items).toS) s.heap.objs.size nS xs hsz.symm hb hv (items.size - 0) 0 _ rfl (Nat.zero_le _)
    ⟨⟨_, Heap.get?_push_size _ rfl, rfl, rfl⟩, hl1.push _⟩ ⟨[], at_fresh (Heap.get?_push_of_some _ hS), Nat.le_refl _, fun k => by simp⟩ fun s' m mv hA mem hm => ?_
  show wpAny _ _ _ _ _ _
  refine wpAny_pure ?_
  show wpAny _ _ (ret Value.none) _ _ _
  refine wpAny_pure ⟨rfl, left_of (wr := [_]) rfl ?_ ?k1 ?e1 ?e2 ?e3 mv hA mem (by omega)⟩
  case k1 => exact fun b o e => Heap.get?_push_of_some _ (Heap.get?_push_of_some _ e)
  case e1 => rfl
  case e2 => rfl
  case e3 => rfl
  intro b q
  rw [List.mem_singleton.mp q]
  show _ ≤ (s.heap.push (fresh w)).objs.size
  rw [z1]
  exact Nat.le_succ _
set_option maxHeartbeats 4000000 in
theorem init_text {x : Str} {t : Tok} (hh : A.handled = none) (hb : x.length + 1 < scanBound) :
    wpAny (model P w) A (Builtin.«set.__init__» ⟨[.ref s.heap.objs.size, .str x t], []⟩) (fun f s2 => f = .done (.ret .none) ∧ Left P w s (x.cps.toList.map fun c => (⟨#[c]⟩ : Str)) s2) E { s with heap := s.heap.push (fresh w) } := by
  have hsz : (x.cps.toList.map fun c => (⟨#[c]⟩ : Str)).length = x.cps.size := by rw [List.length_map, Array.length_toList]
  have hx : x.length = x.cps.size := rfl
  have hv : ∀ (i : Nat) (v : Value), SignAt x i v → ∃ k t, (x.cps.toList.map fun c => (⟨#[c]⟩ : Str))[i]? = some k ∧ v = .str k t := fun i v ⟨c, u, q, e⟩ => by
    refine ⟨⟨#[c]⟩, u, ?_, e⟩
    rw [List.getElem?_map, Array.getElem?_toList, q] <;> rfl
  have hS : (s.heap.push (fresh w)).get? s.heap.objs.size = some (fresh w) := Heap.get?_push_size _ rfl
  have hT : Shared.TypeIs { s with heap := s.heap.push (fresh w) } (.ref s.heap.objs.size) "set" := ⟨_, hS, rfl⟩
  have hTx : Shared.TypeIs { s with heap := s.heap.push (fresh w) } (.str x t) "str" := typeIs_str _ x t
  have f1 := PySem.F.sub_str_set
  have f2 := PySem.F.sub_str_frozenset
  have f3 : (Value.type "str" == Value.type "dict") = false := by decide
  have z1 : (s.heap.push (fresh w)).objs.size = s.heap.objs.size + 1 := Heap.size_push ..
  unfold Builtin.«set.__init__» noKeywords Builtin.Frozenset.updateFrom
  generalize ePI : pyIter = PI
  wp_walk
  subst ePI
  refine wpAny_pyIter_str fun o St W st => ?_
  refine wpAny_bind (wpAny_runValue ?_)
  refine fill ((W _ (by simp [hh])).toS) s.heap.objs.size (by rw [z1]; simp) _ hsz.symm (by rw [hsz, ← hx]; exact hb) hv (x.cps.size - 0) 0 _ rfl (Nat.zero_le _)
    st ⟨[], at_fresh (Heap.get?_push_of_some _ hS), Nat.le_refl _, fun k => by simp⟩ fun s' m mv hA mem hm => ?_
  show wpAny _ _ _ _ _ _
  refine wpAny_pure ?_
  show wpAny _ _ (ret Value.none) _ _ _
  refine wpAny_pure ⟨rfl, left_of (wr := [_]) rfl ?_ ?k1 ?e1 ?e2 ?e3 mv hA mem (by rw [hsz]; exact hm)⟩
  case k1 => exact fun b o e => Heap.get?_push_of_some _ (Heap.get?_push_of_some _ e)
  case e1 => rfl
  case e2 => rfl
  case e3 => rfl
  intro b q
  rw [List.mem_singleton.mp q]
  show _ ≤ (s.heap.push (fresh w)).objs.size
  rw [z1]
  exact Nat.le_succ _

/-! ### sorted(set) -/
theorem texts_of {es : List (Int × Value)} (el : ElemsOf (strKind P w) es) : ∀ vs : List Value, (∀ v ∈ vs, v ∈ es.map (·.2)) → ∃ ks : List Str, StrsAre vs ks ∧ (∀ k, k ∈ ks ↔ ∃ v ∈ vs, (strKind P w).is k v = true) ∧ ks.length = vs.length
  | [], _ => ⟨[], .nil, fun k => by simp, rfl⟩
  | v :: vs, h => by
    obtain ⟨ks, h1, h2, h3⟩ := texts_of el vs fun u q => h u (List.mem_cons_of_mem _ q)
    obtain ⟨e, he, ev⟩ := List.mem_map.mp (h v List.mem_cons_self)
    obtain ⟨⟨k, hk, _⟩, _⟩ := el e he
    rw [ev] at hk
    obtain ⟨t, rfl⟩ := Value.isStrOf_shape hk
    refine ⟨k :: ks, .cons k t h1, fun j => ?_, by rw [List.length_cons, List.length_cons, h3]⟩
    rw [List.mem_cons, h2 j]
    constructor
    · rintro (q | ⟨u, hu, q⟩)
      · exact ⟨_, List.mem_cons_self, by rw [q]; exact hk⟩
      · exact ⟨u, List.mem_cons_of_mem _ hu, q⟩
    · rintro ⟨u, hu, q⟩
      rcases List.mem_cons.mp hu with z | z
      · rw [z] at q
        exact .inl ((strKind P w).inj _ _ _ q hk)
      · exact .inr ⟨u, z, q⟩
theorem sorted_at {a : Addr} {l : List Str} {Q : Value → Shared → Prop} (R : At P w s.heap a l) (hh : A.handled = none) (h64 : l.length < 64)
    (hQ : ∀ s' p (out : Array Value) (c : Nat) (ys : List Str), (∀ b o, s.heap.get? b = some o → s'.heap.get? b = some o) → s'.gens = s.gens → s'.os = s.os → s.heap.objs.size ≤ p →
      s'.heap.get? p = some (seqObj "list" out c) → StrsAre out.toList ys → ys.Perm l → sortedS ys = true → Q (.ref p) s') :
    wpAny (model P w) A (call (.builtin "sorted") [.ref a]) Q E s := by
  obtain ⟨⟨es, ep, t⟩, ho, ok⟩ := R
  have ft : t.fits es.size = true := ok.tx.fit
  have z : es.size = l.length := ok.tx.sz
  have sb : es.size < scanBound := by
    unfold scanBound
    omega
  refine Calls.call_function_entry kind_sorted plain_sorted entry_sorted (args_sorted1 _) ?_
  unfold Builtin.«sorted»
  refine wpAny_bind (m := checkCount "sorted" 1 1 _) (wpAny_pure ?_)
  refine wpAny_bind (collect_set (A := A.in1) hh ⟨_, ho, rfl, rfl⟩ ft sb ok.up ok.led fun s1 vs k1 hz g1 o1 pm => ?_)
  obtain ⟨ks, hS, mem, hlen⟩ := texts_of ok.tx.el vs fun v hv => pm.mem_iff.mp hv
  have vl : vs.length = l.length := by rw [pm.length_eq, List.length_map, Array.length_toList]; exact z
  have pk : ks.Perm l := perm_of_sub l ks ok.nd (fun k hk => by
    obtain ⟨e, he, q⟩ := (ok.tx.mem k).mp hk
    exact (mem k).mpr ⟨e.2, pm.mem_iff.mpr (List.mem_map.mpr ⟨e, he, rfl⟩), q⟩) (by omega)
  refine wpAny_bind (wpAny_newList ?_ (by rw [vl, sizeLine_eq]; omega))
  have hoL : (s1.heap.push (seqObj "list" vs.toArray 0)).get? s1.heap.objs.size = some (seqObj "list" vs.toArray 0) := Heap.get?_push_size _ rfl
  refine wpAny_bind (wpAny_holding (wpAny_call_entry slot_list_sort ⟨_, hoL, rfl⟩ entry_list_sort
    (list_sort_treeK strKind_oneLt hoL hS.keysOf (fun v₁ v₂ rest e => keyKind_strs (by rw [← e]; exact hS)) (by rw [vl]; exact h64) fun st' hp hs => ?_) (args_list_sort _)))
  obtain ⟨ys, y1, y2, y3⟩ := sorted_out_str hS hp hs
  obtain ⟨c, hc⟩ := sortedHeap_at (vs := vs) (out := Array.map (fun x => x.snd) (arrOf st')) hoL
  refine ⟨_, rfl, wpAny_pure ⟨_, rfl, hQ _ s1.heap.objs.size _ c ys (fun b u e => ?_) g1 o1 hz hc y1 (y2.trans pk) y3⟩⟩
  have q := k1 b u e
  have lt := Heap.lt_size q
  show (sortedHeap (s1.heap.push (seqObj "list" vs.toArray 0)) s1.heap.objs.size vs _).get? b = some u
  rw [sortedHeap_old (Nat.ne_of_lt lt) (by rw [Heap.size_push]; exact Nat.lt_succ_of_lt lt)]
  exact Heap.get?_push_of_some _ q
end

/-! ### over the layer -/
def SetTx (P : Program) (w : World) (a : Addr) (l : List Str) : HO := .ext fun h => At P w h a l
theorem setTx_new {P : Program} {w : World} {H : Hp} {h : Heap} {a : Addr} {l : List Str} (R : At P w h a l) : ObjOk P w H h a (SetTx P w a l) := by
  have ⟨D, hD, _⟩ := R
  exact ⟨R, ⟨_, hD⟩, fun h1 h2 p k => At.move p k⟩
section
variable {X : Cx}
/-- set(xs), xs a list of texts -/
def rSetL (K : PySem.W.Frag) (P : Program) (w : World) : List V → Hp → VK → Prop := fun xs H Q => ∃ (l : Addr) (ss : List Str), xs = [V.ref l] ∧ SqL K H l (ss.map V.str) ∧ ss.length + 1 < scanBound ∧
  ∀ (a : Addr) (ls : List Str), H a = none → ls.Nodup → (∀ k, k ∈ ls ↔ k ∈ ss) → ls.length ≤ ss.length → Q (.ref a) (upd H a (SetTx P w a ls))
theorem At.nd {P : Program} {w : World} {h : Heap} {a : Addr} {l : List Str} (x : At P w h a l) : l.Nodup := by
  obtain ⟨D, _, o⟩ := x
  exact o.nd
theorem cr_setL (hc : X.calm = true) : CallR X (.type "set") (rSetL X.K X.prog X.w) := by
  intro pins s σ H xs us Q I r h
  obtain ⟨l, ss, rfl, hs, hb, q⟩ := h
  obtain ⟨its, rv, hl, _⟩ := I.list hs
  rw [Vals.ref1 r]
  have hn : H s.heap.objs.size = none := I.hok.fresh (Nat.le_refl _)
  refine call_set_of (xs := ss) (fun A' e => init_list (e.trans (I.ok.hd hc)) hl.isList rv.strs hb) fun s' L => ?_
  obtain ⟨h', tk, ls, rfl, hA, mem, hlen, kp⟩ := L
  exact ⟨.ref s.heap.objs.size, upd H s.heap.objs.size (SetTx X.prog X.w s.heap.objs.size ls), I.laid (t' := tk) kp (Nat.le_refl _) (setTx_new hA), rfl, q _ ls hn hA.nd mem hlen⟩
def signs (x : Str) : List Str := x.cps.toList.map fun c => (⟨#[c]⟩ : Str)
/-- set(x), x a text -/
def rSetT (P : Program) (w : World) : List V → Hp → VK → Prop := fun xs H Q => ∃ (x : Str), xs = [V.str x] ∧ x.length + 1 < scanBound ∧
  ∀ (a : Addr) (ls : List Str), H a = none → ls.Nodup → (∀ k, k ∈ ls ↔ k ∈ signs x) → ls.length ≤ x.length → Q (.ref a) (upd H a (SetTx P w a ls))
theorem cr_setT (hc : X.calm = true) : CallR X (.type "set") (rSetT X.prog X.w) := by
  intro pins s σ H xs us Q I r h
  obtain ⟨x, rfl, hb, q⟩ := h
  obtain ⟨t, rfl⟩ : ∃ t, us = [Value.str x t] := by
    cases r with
    | cons r1 r2 =>
      cases r2
      obtain ⟨t, rfl⟩ := r1
      exact ⟨t, rfl⟩
  have hn : H s.heap.objs.size = none := I.hok.fresh (Nat.le_refl _)
  refine call_set_of (xs := x.cps.toList.map fun c => (⟨#[c]⟩ : Str)) (fun A' e => init_text (e.trans (I.ok.hd hc)) hb) fun s' L => ?_
  obtain ⟨h', tk, ls, rfl, hA, mem, hlen, kp⟩ := L
  rw [List.length_map, Array.length_toList] at hlen
  exact ⟨.ref s.heap.objs.size, upd H s.heap.objs.size (SetTx X.prog X.w s.heap.objs.size ls), I.laid (t' := tk) kp (Nat.le_refl _) (setTx_new hA), rfl, q _ ls hn hA.nd mem hlen⟩
/-- sorted(found) of texts, fewer than 64 -/
def rSortTx (P : Program) (w : World) : List V → Hp → VK → Prop := fun vs H Q => ∃ (a : Addr) (l : List Str), vs = [V.ref a] ∧ H a = some (SetTx P w a l) ∧ l.length < 64 ∧
  ∀ (ys : List Str) (p : Addr), ys.Perm l → sortedS ys = true → H p = none → Q (.ref p) (upd H p (.lst (ys.map V.str)))
theorem cr_sortTx (hc : X.calm = true) : CallR X (.builtin "sorted") (rSortTx X.prog X.w) := by
  intro pins s σ H vs us Q I r h
  obtain ⟨a, l, rfl, ha, h64, q⟩ := h
  have R : At X.prog X.w s.heap a l := (I.hok a _ ha).1
  rw [Vals.ref1 r]
  refine sorted_at R (I.ok.hd hc) h64 fun s' p out c ys k g o hp hg hi pm so => ?_
  have hlen : (ys.map V.str).length ≤ sizeLine := by
    rw [List.length_map, pm.length_eq, sizeLine_eq]
    omega
  have hn : H p = none := I.hok.fresh hp
  have J : Inv X pins σ (upd H p (.lst (ys.map V.str))) { s with heap := s'.heap, gens := s'.gens, drawn := s'.drawn, toks := s'.toks } :=
    I.call (ch := []) (Un.laid k hp hn) (I.hok.laid k hp ⟨hlen, out.toList, c, vals_of_strs hi, hg⟩) (by rw [g]; exact I.bare) (fun _ z => nomatch z)
  have e : s' = { s with heap := s'.heap, gens := s'.gens, drawn := s'.drawn, toks := s'.toks } := by
    cases s'
    cases s
    cases o
    rfl
  rw [e]
  exact ⟨.ref p, _, J, rfl, q ys p pm so hn⟩
end
end TX
namespace DW
open PySem PySem.Spec PyProof.Rows L2
def topS (i : Nat) : Stmt := PySem.Challenge.pw_downwords_k56_whole_expressions_put_toge.main.body.getD i (.Pass ⟨0, 0, 0, 0⟩)
abbrev sWall : Stmt := topS 0
abbrev sIsAscending : Stmt := topS 10
abbrev sIsAlphabet : Stmt := topS 11
abbrev sIsWord : Stmt := topS 12
abbrev sIsFactor : Stmt := topS 15
abbrev sIsProduct : Stmt := topS 16
abbrev sFormatFactor : Stmt := topS 17
abbrev sFormatProduct : Stmt := topS 18
abbrev sLettersOf : Stmt := topS 19
abbrev sSwallows : Stmt := topS 20
abbrev sCovers : Stmt := topS 21
abbrev sReduceProduct : Stmt := topS 22
abbrev sBehind : Stmt := topS 23
abbrev sPlaceBehind : Stmt := topS 24
abbrev sIsIncluded : Stmt := topS 25
abbrev sSubwordsProduct : Stmt := topS 26
abbrev sStarProduct : Stmt := topS 27
abbrev sIsInside : Stmt := topS 28
abbrev sSizeOfProduct : Stmt := topS 29
abbrev sByWrittenForm : Stmt := topS 30
abbrev sMaximalProducts : Stmt := topS 31
abbrev sFormatProducts : Stmt := topS 35
abbrev sLanguageOfMaximal : Stmt := topS 36
abbrev sClosureOfWords : Stmt := topS 37
abbrev sCheckAlphabets : Stmt := topS 38
abbrev sCheckProducts : Stmt := topS 39
abbrev sIsSubset : Stmt := topS 40
abbrev sUnionOfAll : Stmt := topS 42
abbrev sUnion : Stmt := topS 43
abbrev sStarsAmong : Stmt := topS 44
abbrev sMaximalTails : Stmt := topS 45
abbrev sMaximalHeads : Stmt := topS 46
abbrev sConcatenation : Stmt := topS 47
abbrev sReversal : Stmt := topS 48
abbrev sStar : Stmt := topS 49
abbrev sWrongIndex : Stmt := topS 57
abbrev sCheckExpression : Stmt := topS 58
abbrev sReadOperand : Stmt := topS 59
abbrev sReadItem : Stmt := topS 60
abbrev sReadAlternative : Stmt := topS 61
abbrev sReadChoice : Stmt := topS 62
abbrev sClosureOfExpression : Stmt := topS 63
abbrev sBegin : Stmt := topS 65
abbrev sDraw : Stmt := topS 66
abbrev sPick : Stmt := topS 67
abbrev sAlpha : Stmt := topS 68
abbrev sLTree : Stmt := topS 69
abbrev sLWritten : Stmt := topS 70
abbrev sLBackwards : Stmt := topS 71
abbrev sLAllRight : Stmt := topS 72
abbrev sLaw : Stmt := topS 73
end DW
/-! zip(text, text) -/
namespace ZX
open PySem PySem.Spec PyProof.Rows L2
/-- the signs of two texts, side by side, in new pairs -/
def Itx (x y : Str) : It :=
  ⟨fun i _ => i < x.cps.size ∧ i < y.cps.size,
    fun i H v H' => ∃ (T : Addr) (c d : Nat), v = .ref T ∧ H T = none ∧ H' = upd H T (.tup [.str ⟨#[c]⟩, .str ⟨#[d]⟩]) ∧ x.cps[i]? = some c ∧ y.cps[i]? = some d,
    fun i _ => i = min x.cps.size y.cps.size⟩
theorem turn_zipX {P : Program} {w : World} {K : PySem.W.Frag} {elts : List Expr} {kk : Nat} {tpos : Pos} {x y : Str} {t u : Tok} {z TI TO i1 i2 : Addr} (S : ZipSep2 z TI TO i1 i2 [i1] [i2]) :
    Turn P w K (.Tuple elts kk tpos) (Itx x y) [z, TI, TO, i1, i2] z (fun i h => IsZip h z TI TO .none ∧ IsTupOf2 h TI (.ref i1) (.ref i2) ∧ (∃ a b, IsTupOf2 h TO a b) ∧ h.IsStrIter i1 (strIterType x) x t i ∧ h.IsStrIter i2 (strIterType y) y u i) where
  mem := by simp
  obj := fun i h st c hc => by
    obtain ⟨hz, hTI, ⟨a, b, hTO⟩, ⟨o1, e1, _, d1⟩, ⟨o2, e2, _, d2⟩⟩ := st
    have e' : c = z ∨ c = TI ∨ c = TO ∨ c = i1 ∨ c = i2 := by simpa using hc
    rcases e' with q | q | q | q | q
    · rw [q]; exact ⟨_, hz, fun v q => nomatch q⟩
    · rw [q]; exact ⟨_, hTI, fun v q => nomatch q⟩
    · rw [q]; exact ⟨_, hTO, fun v q => nomatch q⟩
    · rw [q]; exact ⟨o1, e1, fun v q => by rw [d1] at q; cases q⟩
    · rw [q]; exact ⟨o2, e2, fun v q => by rw [d2] at q; cases q⟩
  keep := fun i h h' st k => by
    obtain ⟨hz, hTI, ⟨a, b, hTO⟩, ⟨o1, e1, r1⟩, ⟨o2, e2, r2⟩⟩ := st
    exact ⟨k z (by simp) _ hz, k TI (by simp) _ hTI, ⟨a, b, k TO (by simp) _ hTO⟩, ⟨o1, k i1 (by simp) _ e1, r1⟩, ⟨o2, k i2 (by simp) _ e2, r2⟩⟩
  item := by
    intro X hP hw hK hc i pins s σ H E I hf st hg
    subst hP hw hK
    obtain ⟨hz, hTI, ⟨a0, b0, hTO⟩, h1, h2⟩ := st
    have hzl : z < s.heap.objs.size := Heap.lt_size hz
    refine wpAny_pyNext_zipD2_item S (Draws.text (A := X.A.in1) (I.ok.hd hc) i1 x t) (Draws.text (A := X.A.in1) (I.ok.hd hc) i2 y u) hz hTI hTO h1 h2 hg.1 hg.2 fun v1 v2 h' tk p1 p2 z' TO' h1' h2' hT hsz hk => ?_
    obtain ⟨c, tc, hc1, rfl⟩ := p1
    obtain ⟨d, td, hd1, rfl⟩ := p2
    refine ⟨_, rfl, wpAny_letOwnedTupleGo_zip (s := { s with heap := h', toks := tk }) z' fun h'' z'' sb => ?_⟩
    have hT2 : h''.get? s.heap.objs.size = some { cls := .type "tuple", data := .seq #[.str ⟨#[c]⟩ tc, .str ⟨#[d]⟩ td] } := (sb.2 _ (Nat.ne_of_gt hzl)).trans hT
    have new : ObjOk X.prog X.w (upd H s.heap.objs.size (.tup [.str ⟨#[c]⟩, .str ⟨#[d]⟩])) h'' s.heap.objs.size (.tup [.str ⟨#[c]⟩, .str ⟨#[d]⟩]) :=
      ⟨by show 2 ≤ sizeLine; decide, [.str ⟨#[c]⟩ tc, .str ⟨#[d]⟩ td], .cons ⟨_, rfl⟩ (.cons ⟨_, rfl⟩ .nil), ⟨_, hT2, rfl, _, rfl⟩⟩
    have I1 : Inv X pins σ (upd H s.heap.objs.size (.tup [.str ⟨#[c]⟩, .str ⟨#[d]⟩])) { s with heap := h'', toks := tk } :=
      I.turnedNew (t' := tk) (ch := [z, TI, TO, i1, i2]) (fun c o hb q => (sb.2 c (fun q' => hb (by simp [q']))).trans (hk c o (fun q' => hb (by simp [q'])) (fun q' => hb (by simp [q'])) (fun q' => hb (by simp [q'])) (fun q' => hb (by simp [q'])) q)) hf (Nat.le_refl _) new
    have st' : ∀ {a : Addr} {ty : String} {v : Str} {tv : Tok} {n : Nat}, a ≠ z → h'.IsStrIter a ty v tv n → h''.IsStrIter a ty v tv n := fun n ⟨o, e, r⟩ => ⟨o, (sb.2 _ n).trans e, r⟩
    refine ⟨.ref s.heap.objs.size, _, I1, rfl, ⟨_, c, d, rfl, I.hok.fresh (Nat.le_refl _), rfl, hc1, hd1⟩, ⟨z'', ?_, ⟨.str ⟨#[c]⟩ tc, .str ⟨#[d]⟩ td, ?_⟩, st' S.zi1.symm h1', st' S.zi2.symm h2'⟩, fun b hb => ?_⟩
    · exact (sb.2 _ S.TIz).trans (hk _ _ S.TIz S.TITO S.TIi1 S.TIi2 hTI)
    · exact (sb.2 _ S.TOz).trans TO'
    · have hlt : b < s.heap.objs.size := by
        have e' : b = z ∨ b = TI ∨ b = TO ∨ b = i1 ∨ b = i2 := by simpa using hb
        rcases e' with q | q | q | q | q
        · rw [q]; exact hzl
        · rw [q]; exact Heap.lt_size hTI
        · rw [q]; exact Heap.lt_size hTO
        · rw [q]; obtain ⟨_, e1, _⟩ := h1; exact Heap.lt_size e1
        · rw [q]; obtain ⟨_, e2, _⟩ := h2; exact Heap.lt_size e2
      rw [upd_ne (Nat.ne_of_lt hlt)]
      exact (hf b hb).1
  done := by
    intro X hP hw hK hc i pins s σ H E I hf st hg
    subst hP hw hK
    obtain ⟨hz, hTI, ⟨a0, b0, hTO⟩, h1, h2⟩ := st
    have hg' : i = min x.cps.size y.cps.size := hg
    exact wpAny_pyNext_zipD2_end S (Draws.text (A := X.A.in1) (I.ok.hd hc) i1 x t) (Draws.text (A := X.A.in1) (I.ok.hd hc) i2 y u) hz hTI hTO h1 h2 (by omega) (by omega) (by omega) fun h' tk hk => ⟨rfl, I.turnedL (t' := tk) (ch := [z, TI, TO, i1, i2]) (fun c o hb q =>
      hk c o (fun q' => hb (by simp [q'])) (fun q' => hb (by simp [q'])) (fun q' => hb (by simp [q'])) (fun q' => hb (by simp [q'])) q) hf⟩
  self := fun A i s Q E st h => wpAny_pyIter_zip st.1 h
theorem sep_new (n : Addr) : ZipSep2 (n + 4) (n + 2) (n + 3) n (n + 1) [n] [n + 1] := by
  constructor <;> simp <;> omega
def iZipX (ta : TA) : TI := fun σ H R => ta σ H fun vs H1 => ∃ x y : Str, vs = [.str x, .str y] ∧ R (Itx x y) H1
theorem pi_zipX {X : Cx} {e e2 : Expr} {ta : TA} {p pos tpos : Pos} {elts : List Expr} {kk : Nat} (hg : Gl X "zip") (hm : X.mg "zip" = none) (ha : PA X [e, e2] ta)
    (hs : starEach [e, e2] X.env = (false, eval e X.env) :: starEach [e2] X.env := by rfl) (hpl : (backTo pos (starEach [e2] X.env)).any (·.1) = false := by rfl) :
    PI X (.Tuple elts kk tpos) (.Call (.Name "zip" p) [e, e2] [] pos) (iZipX ta) := by
  refine ⟨fun pins s σ H R I h => ?_⟩
  refine Call_ (ld_blt I hg hm PyProof.Rows.boot_zip (PyProof.Rows.callWith_type1 (thn (ha.run pos pins s σ H _ I h) fun us s1 ⟨vs, H1, I1, r1, q1⟩ => ?_) hs hpl))
  obtain ⟨x, y, ex, q⟩ := q1
  subst ex
  cases r1 with
  | cons r rr =>
    cases rr with
    | cons r' rr =>
      cases rr
      obtain ⟨t, rfl⟩ := r
      obtain ⟨u, rfl⟩ := r'
      refine zip_begins2 (begins_text x t) (begins_text y u) trivial trivial fun h' hz hTI hTO h1 h2 hsz hk => wpAny_pyIter_zip hz ?_
      have I2 : Inv X pins σ H1 { s1 with heap := h' } := I1.kept (t' := s1.toks) hk
      refine ⟨s1.heap.objs.size + 4, [s1.heap.objs.size + 4, s1.heap.objs.size + 2, s1.heap.objs.size + 3, s1.heap.objs.size, s1.heap.objs.size + 1], _, _, H1, rfl, I2, turn_zipX (sep_new s1.heap.objs.size), ⟨hz, hTI, ⟨_, _, hTO⟩, ⟨_, h1, rfl, rfl⟩, ⟨_, h2, rfl, rfl⟩⟩, fun c hcm => ?_, q⟩
      have e' : c = s1.heap.objs.size + 4 ∨ c = s1.heap.objs.size + 2 ∨ c = s1.heap.objs.size + 3 ∨ c = s1.heap.objs.size ∨ c = s1.heap.objs.size + 1 := by simpa using hcm
      have hle : s1.heap.objs.size ≤ c := by
        rcases e' with z | z | z | z | z
        · rw [z]; exact Nat.le_add_right _ _
        · rw [z]; exact Nat.le_add_right _ _
        · rw [z]; exact Nat.le_add_right _ _
        · rw [z]; exact Nat.le_refl _
        · rw [z]; exact Nat.le_add_right _ _
      exact I1.fpOk hle (I1.hok.fresh hle)
theorem walk_zipX {x y : Str} : Walk (Itx x y) (min x.cps.size y.cps.size) (fun _ => True) (Itx x y).yld :=
  ⟨fun i _ hi _ => ⟨by omega, by omega⟩, fun _ _ => rfl, fun _ _ _ _ _ _ y => y⟩
end ZX
/-! list(text); text[::-1] as a text of the same length -/
namespace R1
open PySem PySem.Spec PyProof.Rows L2
theorem texts_in : ∀ l : List Value, (∀ v ∈ l, ∃ z t, v = .str z t) → ∃ ss : List Str, Vals (ss.map V.str) l
  | [], _ => ⟨[], .nil⟩
  | v :: l, h => by
    obtain ⟨ss, r⟩ := texts_in l fun u hu => h u (List.mem_cons_of_mem _ hu)
    obtain ⟨z, t, rfl⟩ := h v List.mem_cons_self
    exact ⟨z :: ss, .cons ⟨t, rfl⟩ r⟩
section
variable {X : Cx}
theorem cr_listT (hc : X.calm = true) : CallR X (.type "list") (fun xs H Q => ∃ x : Str, xs = [.str x] ∧ x.length ≤ sizeLine ∧ ∀ p (ss : List Str), H p = none → Q (.ref p) (upd H p (.lst (ss.map V.str)))) := by
  intro pins s σ H xs us Q I r h
  obtain ⟨x, rfl, hb, q⟩ := h
  obtain ⟨t, rfl⟩ : ∃ t, us = [Value.str x t] := by
    cases r with
    | cons r1 r2 =>
      cases r2
      obtain ⟨t, rfl⟩ := r1
      exact ⟨t, rfl⟩
  refine call_list_str (I.ok.hd hc) x t (hn := hb) fun h' tk acc c hk hS hacc => ?_
  obtain ⟨ss, rv⟩ := texts_in acc.toList fun v hv => by
    obtain ⟨j, hj⟩ := List.getElem?_of_mem hv
    obtain ⟨c, u, _, e⟩ := hacc.2 j v (by simpa using hj)
    exact ⟨_, u, e⟩
  have hl : (ss.map V.str).length ≤ sizeLine := by
    rw [rv.length, Array.length_toList, hacc.1]
    exact hb
  exact ⟨.ref s.heap.objs.size, upd H s.heap.objs.size (.lst (ss.map V.str)), I.laid (t' := tk) hk (Nat.le_refl _) ⟨hl, acc.toList, c, rv, hS⟩, rfl, q _ ss (I.hok.fresh (Nat.le_refl _))⟩
def tRevT (te : TE) : TE := fun σ H Q => te σ H fun x H1 => ∃ z : Str, x = .str z ∧ z.length ≤ sizeLine ∧ ∀ y : Str, y.length ≤ z.length → (∀ c ∈ y.cps.toList, c ∈ z.cps.toList) → Q (.str y) H1
theorem pe_revT {e : Expr} {te : TE} {k : Nat} {p1 p2 p3 pos : Pos} (he : PE X e te) : PE X (.Subscript e (.Slice none none (some (.UnaryOp .USub (.Constant (.int 1) k p1) p2)) p3) pos) (tRevT te) := by
  refine ⟨fun pins s σ H Q I h => ?_⟩
  refine Subscript_ (thn (he.run pins s σ H _ I h) fun v s1 ⟨x, H1, I1, r1, q1⟩ => ?_)
  obtain ⟨z, ex, hz, q⟩ := q1
  subst ex
  obtain ⟨t, rfl⟩ := r1
  have hst : PO X (some (.UnaryOp .USub (.Constant (.int 1) k p1) p2)) (tPart (tUn (rU fun i => .int (-i)) (tC (.int 1)))) := po_some (pe_un un_neg pe_int)
  refine wpAny_Slice (thn (po_none.run pins s1 σ H1 (fun o H2 => o = none ∧ H2 = H1) I1 ⟨rfl, rfl⟩) fun vl s2 ⟨l, H2, I2, pl, el, e2⟩ => ?_)
  subst el e2
  refine thn (po_none.run pins s2 σ H2 (fun o H3 => o = none ∧ H3 = H2) I2 ⟨rfl, rfl⟩) fun vu s3 ⟨u, H3, I3, pu, eu, e3⟩ => ?_
  subst eu e3
  refine thn (hst.run pins s3 σ H3 (fun o H4 => o = some (-1) ∧ H4 = H3) I3 ⟨1, rfl, -1, rfl, rfl, rfl⟩) fun vs s4 ⟨o, H4, I4, ps, eo, e4⟩ => ?_
  subst eo e4
  obtain ⟨l1, rfl, el⟩ := IsPart.raw pl
  obtain ⟨u1, rfl, eu⟩ := IsPart.raw pu
  obtain ⟨st1, rfl, es⟩ := IsPart.raw ps
  have I5 : Inv X pins σ H4 { s4 with heap := s4.heap.push { cls := .type "slice", data := .fields #[partValue l1, partValue u1, partValue st1] } } := I4.kept (t' := s4.toks) fun b ob q => Heap.get?_push_of_some _ q
  show wpAny (model X.prog X.w) X.A (subscriptTail e (.Slice none none (some (.UnaryOp .USub (.Constant (.int 1) k p1) p2)) p3) (.str z t) (.ref s4.heap.objs.size)) (EP X pins σ Q) X.xe { s4 with heap := s4.heap.push { cls := .type "slice", data := .fields #[partValue l1, partValue u1, partValue st1] } }
  refine tail_any (ops := [.str z t, .ref s4.heap.objs.size]) (typeIs_str _ _ _) (F.slot_str_getitem.lookup) ?_ (by with_unfolding_all rfl)
  refine wpAny_getItem_str_slice (l := l1) (u := u1) (st := st1) ⟨_, Heap.get?_push_size _ rfl, rfl, rfl⟩ (by rw [es]; rfl) ?_
  have e0 : sliceMade z t l1 u1 st1 = .str ⟨(((List.range z.length).map fun k => z.length - 1 - k).filterMap (z.cps[·]?)).toArray⟩ := by
    unfold sliceMade slicePicked
    rw [el, eu, es]
    show (if ((-1 : Int) == 1 && _) = true then _ else _) = _
    rw [if_neg (by simp)]
    show Made.str ⟨((sliceRange ((z.length : Int) - 1) (-1) (-1)).filterMap (z.cps[·]?)).toArray⟩ = _
    rw [PySem.W.krv_sliceRange]
  rw [e0]
  have hl : (⟨(((List.range z.length).map fun k => z.length - 1 - k).filterMap (z.cps[·]?)).toArray⟩ : Str).length ≤ z.length := by
    show (((List.range z.length).map fun k => z.length - 1 - k).filterMap (z.cps[·]?)).toArray.size ≤ _
    rw [List.size_toArray]
    refine Nat.le_trans (List.length_filterMap_le _ _) ?_
    rw [List.length_map, List.length_range]
    exact Nat.le_refl _
  have hm : ∀ c ∈ (⟨(((List.range z.length).map fun k => z.length - 1 - k).filterMap (z.cps[·]?)).toArray⟩ : Str).cps.toList, c ∈ z.cps.toList := fun c hc => by
    have hc' : c ∈ ((List.range z.length).map fun k => z.length - 1 - k).filterMap (z.cps[·]?) := by simpa using hc
    obtain ⟨i, _, hi⟩ := List.mem_filterMap.mp hc'
    rw [← Array.getElem?_toList] at hi
    exact List.mem_of_getElem? hi
  exact ⟨Nat.le_trans hl hz, .str _, H4, I5.tok _, ⟨_, rfl⟩, q _ hl hm⟩
end
end R1
/-! tuple[::-1] -/
namespace RV
open PySem PySem.Spec PyProof.Rows L2 HT
section
variable {prog : Program} {w : World} {A : Around} {E : Value → Shared → Prop} {s : Shared}
theorem adjust_rev (n : Nat) : Builtin.Slice.sliceAdjust none none (-1) (n : Int) = ((n : Int) - 1, -1) := by
  unfold Builtin.Slice.sliceAdjust
  have h1 : (-1 : Int) < 0 := by omega
  simp only [h1, if_true]
theorem places_rev (n : Nat) : Builtin.Slice.slicePlaces ((n : Int) - 1) (-1) (-1) = n := by
  unfold Builtin.Slice.slicePlaces
  have h1 : ¬ ((-1 : Int) > 0) := by omega
  rw [if_neg h1]
  have h2 : -(-1 : Int) = 1 := by omega
  rw [h2, Int.ediv_one]
  split <;> omega
theorem applied_rev {sl : Addr} {vl vu vs : Value} {n : Nat} {Q : Int × Int × Nat → Shared → Prop} (hs : s.heap.IsSliceOf sl vl vu vs) (pl : IsPart vl none) (pu : IsPart vu none) (ps : IsPart vs (some (-1)))
    (h : Q ((n : Int) - 1, -1, n) s) : wpAny (model prog w) A (Builtin.Slice.sliceApplied (.ref sl) (pure (n : Int))) Q E s := by
  obtain ⟨os, hos, hcs, hds⟩ := id hs
  unfold Builtin.Slice.sliceApplied Builtin.Slice.sliceFields
  refine wpAny_bind (wpAny_bind (wpAny_field hos hds (x := vl) rfl (wpAny_bind (wpAny_field hos hds (x := vu) rfl (wpAny_bind (wpAny_field hos hds (x := vs) rfl (wpAny_pure ?_)))))))
  refine wpAny_bind (slicePart_ ps ?_)
  show wpAny _ _ (if ((-1 : Int) == 0) = true then _ else _) _ _ s
  rw [if_neg (by decide)]
  refine wpAny_bind (slicePart_ pl (wpAny_bind (slicePart_ pu (wpAny_bind (wpAny_pure ?_)))))
  show wpAny _ _ (match Builtin.Slice.sliceAdjust none none (-1) (n : Int) with | (lo, hi) => pure (lo, (-1 : Int), Builtin.Slice.slicePlaces lo hi (-1))) _ _ s
  rw [adjust_rev n]
  show wpAny _ _ (pure ((n : Int) - 1, (-1 : Int), Builtin.Slice.slicePlaces ((n : Int) - 1) (-1) (-1))) _ _ s
  rw [places_rev]
  exact wpAny_pure h
theorem pick_rev (xs : Array Value) : ((List.range xs.size).filterMap fun (m : Nat) => xs[(((xs.size : Int) - 1) + (m : Int) * (-1)).toNat]?).toArray = xs.toList.reverse.toArray := by
  have e : (List.range xs.size).filterMap (fun (m : Nat) => xs[(((xs.size : Int) - 1) + (m : Int) * (-1)).toNat]?) = ((List.range xs.size).map fun k => xs.size - 1 - k).filterMap (xs[·]?) := by
    rw [List.filterMap_map]
    congr 1
    funext m
    have : (((xs.size : Int) - 1) + (m : Int) * (-1)).toNat = xs.size - 1 - m := by omega
    rw [this]
    rfl
  rw [e, PySem.W.krv_range, List.filterMap_reverse, PySem.W.krv_all]
theorem getItem_tuple_rev {t sl : Addr} {items : Array Value} {vl vu vs : Value} {Q : Value → Shared → Prop} (ht : IsTup s.heap t items) (hs : s.heap.IsSliceOf sl vl vu vs) (pl : IsPart vl none) (pu : IsPart vu none) (ps : IsPart vs (some (-1)))
    (h : Q (.ref s.heap.objs.size) { s with heap := s.heap.push { cls := .type "tuple", data := .seq items.toList.reverse.toArray } })
    (hsz : items.size ≤ sizeLine) : wpAny (model prog w) A (getItem (.ref t) (.ref sl)) Q E s := by
  have htake : sizeOk (.seq items.toList.reverse.toArray) := by
    show items.toList.reverse.toArray.size ≤ sizeLine
    rw [List.size_toArray, List.length_reverse, Array.length_toList]
    exact hsz
  obtain ⟨os, hos, hcs, hds⟩ := id hs
  have hTs : s.TypeIs (.ref sl) "slice" := ⟨os, hos, hcs⟩
  unfold getItem
  try with_reducible refine wpAny_holding ?_
  first | refine wpAny_bind (wpAny_pure ?_) | skip
  refine wpAny_bind (wpAny_sequenceKey ht.typeIs (by decide) ?_)
  refine wpAny_bind (wpAny_callSpecial?_slot (name := Str.ofString "__getitem__") ht.typeIs PyProof.Rows.slot_tuple_getitem
    (wpAny_call_entry PyProof.Rows.slot_tuple_getitem ht.typeIs entry_tuple_getitem ?_ (args_tuple_getitem _ _)))
  show wpAny _ _ (Builtin.Tuple.tupleItemsOf (.ref t) >>= _) _ _ s
  refine wpAny_bind (tupleItemsOf_ ht ?_)
  refine wpAny_bind (wpAny_typeOf hTs ?_)
  rw [if_pos (by decide)]
  refine wpAny_bind (applied_rev hs pl pu ps ?_)
  have hno : ¬ ((((items.size : Int) - 1) == 0 && (-1 : Int) == 1 && items.size == items.size) = true) := by
    intro q
    rw [Bool.and_eq_true, Bool.and_eq_true] at q
    exact absurd q.1.2 (by decide)
  show wpAny _ _ (if (((items.size : Int) - 1) == 0 && (-1 : Int) == 1 && items.size == items.size) = true then _ else _) _ _ s
  rw [if_neg hno, pick_rev]
  first
    | exact wpAny_bind (m := Builtin.Tuple.tupleExact _) (wpAny_newObj_type (wpAny_pure ⟨_, rfl, wpAny_pure h⟩) htake)
    | exact wpAny_bind (m := Builtin.Tuple.tupleExact _) (wpAny_newObj_type (wpAny_bind (wpAny_pure (wpAny_pure ⟨_, rfl, wpAny_pure h⟩))) htake)
    | exact wpAny_bind (wpAny_bind (m := Builtin.Tuple.tupleExact _) (wpAny_newObj_type (wpAny_pure (wpAny_pure ⟨_, rfl, wpAny_pure h⟩)) htake))
    | exact wpAny_bind (wpAny_bind (m := Builtin.Tuple.tupleExact _) (wpAny_newObj_type (wpAny_pure ⟨_, rfl, wpAny_pure h⟩) htake))
end
section
variable {X : Cx}
def tRevQ (K : PySem.W.Frag) (te : TE) : TE := fun σ H Q => te σ H fun x H1 => ∃ a xs, x = .ref a ∧ SqT K H1 a xs ∧ ∀ p, H1 p = none → Q (.ref p) (upd H1 p (.tup xs.reverse))
theorem pe_revQ {e : Expr} {te : TE} {k : Nat} {p1 p2 p3 pos : Pos} (he : PE X e te) : PE X (.Subscript e (.Slice none none (some (.UnaryOp .USub (.Constant (.int 1) k p1) p2)) p3) pos) (tRevQ X.K te) := by
  refine ⟨fun pins s σ H Q I h => ?_⟩
  refine Subscript_ (thn (he.run pins s σ H _ I h) fun v s1 ⟨x, H1, I1, r1, q1⟩ => ?_)
  obtain ⟨a, xs, ex, hx, q⟩ := q1
  subst ex
  cases r1
  have hst : PO X (some (.UnaryOp .USub (.Constant (.int 1) k p1) p2)) (tPart (tUn (rU fun i => .int (-i)) (tC (.int 1)))) := po_some (pe_un un_neg pe_int)
  refine wpAny_Slice (thn (po_none.run pins s1 σ H1 (fun o H2 => o = none ∧ H2 = H1) I1 ⟨rfl, rfl⟩) fun vl s2 ⟨l, H2, I2, pl, el, e2⟩ => ?_)
  subst el e2
  refine thn (po_none.run pins s2 σ H2 (fun o H3 => o = none ∧ H3 = H2) I2 ⟨rfl, rfl⟩) fun vu s3 ⟨u, H3, I3, pu, eu, e3⟩ => ?_
  subst eu e3
  refine thn (hst.run pins s3 σ H3 (fun o H4 => o = some (-1) ∧ H4 = H3) I3 ⟨1, rfl, -1, rfl, rfl, rfl⟩) fun vs s4 ⟨o, H4, I4, ps, eo, e4⟩ => ?_
  subst eo e4
  have I5 : Inv X pins σ H4 { s4 with heap := s4.heap.push { cls := .type "slice", data := .fields #[vl, vu, vs] } } := I4.kept (t' := s4.toks) fun b ob q => Heap.get?_push_of_some _ q
  obtain ⟨its, r, ht, hz⟩ := I5.tuple hx
  have hlen := r.length
  show wpAny (model X.prog X.w) X.A (subscriptTail e (.Slice none none (some (.UnaryOp .USub (.Constant (.int 1) k p1) p2)) p3) (.ref a) (.ref s4.heap.objs.size)) (EP X pins σ Q) X.xe { s4 with heap := s4.heap.push { cls := .type "slice", data := .fields #[vl, vu, vs] } }
  refine tail_any (ops := [.ref a, .ref s4.heap.objs.size]) ht.typeIs (PyProof.Rows.slot_tuple_getitem.lookup) ?_ (by with_unfolding_all rfl)
  refine getItem_tuple_rev ht (Heap.IsSliceOf.new _ vl vu vs) pl pu ps ?_ (by rw [List.size_toArray]; omega)
  refine ⟨.ref _, _, I5.laid (t' := s4.toks) (o := .tup xs.reverse) (fun b ob q => Heap.get?_push_of_some _ q) (Nat.le_refl _) ?_, rfl, q _ (I5.hok.fresh (Nat.le_refl _))⟩
  exact ⟨by rw [List.length_reverse]; exact hz, _, r.reverse, IsTup.new _ _⟩
end
end RV
/-! two fors in a comprehension, by walks -/
namespace L2
open PySem PySem.Spec PyProof.Rows
set_option autoImplicit false
/-- the second for -/
def Inn (J1 : It) (g1 : TG) (tt1 : TT) (te : TE) (vs1 : List Nat) (D : Addr) (σ2 : St) (H4 : Hp) (Nx : Hp → Prop) : Prop :=
  ∃ W1 : Nat → Nat → Hp → Prop, (∃ m, W1 0 m H4) ∧ ∀ j k H, W1 j k H →
      (J1.stop j H ∧ Nx H) ∨ (J1.go j H ∧ ∃ Nx1 : Hp → Prop, (∀ H', Nx1 H' → ∃ k', k' < k ∧ W1 (j + 1) k' H') ∧ ∀ x H', J1.yld j H x H' → g1 x (wipe σ2 vs1) H' fun σ3 H5 => wipe σ3 vs1 = wipe σ2 vs1 ∧ tt1 σ3 H5 fun b H6 =>
        if b = true then te σ3 H6 fun y H7 => ∃ acc, H7 D = some (.lst acc) ∧ acc.length < sizeLine ∧ Nx1 (upd H7 D (.lst (acc ++ [y]))) else Nx1 H6)
section
variable {J J1 : It} {n n1 : Nat} {G G1 : Hp → Prop} {Y Y1 : Nat → Hp → V → Hp → Prop}
theorem inn_it (w : Walk J1 n1 G1 Y1) {g1 : TG} {tt1 : TT} {te : TE} {vs1 : List Nat} {D : Addr} {σ2 : St} {H4 : Hp} {Nx : Hp → Prop} (Pv : Nat → Hp → Prop) (h0 : Pv 0 H4) (hG : ∀ i H, i ≤ n1 → Pv i H → G1 H)
    (hs : ∀ j x H H', j < n1 → Pv j H → Y1 j H x H' → g1 x (wipe σ2 vs1) H' fun σ3 H5 => wipe σ3 vs1 = wipe σ2 vs1 ∧ tt1 σ3 H5 fun b H6 =>
        if b = true then te σ3 H6 fun y H7 => ∃ acc, H7 D = some (.lst acc) ∧ acc.length < sizeLine ∧ Pv (j + 1) (upd H7 D (.lst (acc ++ [y]))) else Pv (j + 1) H6)
    (hd : ∀ H, Pv n1 H → Nx H) : Inn J1 g1 tt1 te vs1 D σ2 H4 Nx := by
  refine ⟨fun i m H => m = n1 - i ∧ i ≤ n1 ∧ Pv i H, ⟨n1, by simp, Nat.zero_le _, h0⟩, ?_⟩
  rintro i m H ⟨rfl, hi, p⟩
  have q := hG i H hi p
  by_cases hlt : i < n1
  · refine .inr ⟨w.goes i H hlt q, Pv (i + 1), fun H' p' => ⟨n1 - (i + 1), by omega, rfl, hlt, p'⟩, fun x H' y => hs i x H H' hlt p (w.yields i H x H' hlt q y)⟩
  · have e : i = n1 := by omega
    subst e
    exact .inl ⟨w.stops H q, hd H p⟩
theorem lc2_it (w : Walk J n G Y) {g : TG} {tt : TT} {wi1 : TI} {g1 : TG} {tt1 : TT} {te : TE} {vs vs1 : List Nat} {σ : St} {H1 : Hp} {D : Addr} {Qd : Hp → Prop} (Pv : Nat → Hp → Prop) (h0 : Pv 0 (upd H1 D (.lst []))) (hG : ∀ i H, i ≤ n → Pv i H → G H)
    (hs : ∀ i x H H', i < n → Pv i H → Y i H x H' → g x (wipe σ vs) H' fun σ2 H2 => wipe σ2 vs = wipe σ vs ∧ tt σ2 H2 fun b H3 =>
      if b = true then wi1 σ2 H3 fun J1 H4 => Inn J1 g1 tt1 te vs1 D σ2 H4 (Pv (i + 1)) else Pv (i + 1) H3) (hd : ∀ H, Pv n H → Qd H) :
    ∃ W : Nat → Nat → Hp → Prop, (∃ m, W 0 m (upd H1 D (.lst []))) ∧ ∀ i m H, W i m H →
  (J.stop i H ∧ Qd H) ∨ (J.go i H ∧ ∃ Nx : Hp → Prop, (∀ H', Nx H' → ∃ m', m' < m ∧ W (i + 1) m' H') ∧ ∀ x H', J.yld i H x H' → g x (wipe σ vs) H' fun σ2 H2 => wipe σ2 vs = wipe σ vs ∧ tt σ2 H2 fun b H3 =>
    if b = true then wi1 σ2 H3 fun J1 H4 => ∃ W1 : Nat → Nat → Hp → Prop, (∃ m, W1 0 m H4) ∧ ∀ j k H, W1 j k H →
      (J1.stop j H ∧ Nx H) ∨ (J1.go j H ∧ ∃ Nx1 : Hp → Prop, (∀ H', Nx1 H' → ∃ k', k' < k ∧ W1 (j + 1) k' H') ∧ ∀ x H', J1.yld j H x H' → g1 x (wipe σ2 vs1) H' fun σ3 H5 => wipe σ3 vs1 = wipe σ2 vs1 ∧ tt1 σ3 H5 fun b H6 =>
        if b = true then te σ3 H6 fun y H7 => ∃ acc, H7 D = some (.lst acc) ∧ acc.length < sizeLine ∧ Nx1 (upd H7 D (.lst (acc ++ [y]))) else Nx1 H6)
    else Nx H3) := by
  refine ⟨fun i m H => m = n - i ∧ i ≤ n ∧ Pv i H, ⟨n, by simp, Nat.zero_le _, h0⟩, ?_⟩
  rintro i m H ⟨rfl, hi, p⟩
  have q := hG i H hi p
  by_cases hlt : i < n
  · refine .inr ⟨w.goes i H hlt q, Pv (i + 1), fun H' p' => ⟨n - (i + 1), by omega, rfl, hlt, p'⟩, fun x H' y => hs i x H H' hlt p (w.yields i H x H' hlt q y)⟩
  · have e : i = n := by omega
    subst e
    exact .inl ⟨w.stops H q, hd H p⟩
end
end L2
/-! dicts whose keys are tuples at any depth (to eight): of numbers, texts, None and such tuples -/
namespace ND
open PySem PySem.Spec PyProof.Rows L2
set_option autoImplicit false
/-! ### keys -/
mutual
inductive NK (K : PySem.W.Frag) (H : Hp) : NestedKey → V → Prop
  | none : NK K H .none .non
  | num (i : Int) : NK K H (.num i) (.int i)
  | text (x : Str) : NK K H (.text x) (.str x)
  | tup {a : Addr} {vs : List V} {ks : List NestedKey} : SqT K H a vs → NKs K H ks vs → NK K H (.tup ks) (.ref a)
inductive NKs (K : PySem.W.Frag) (H : Hp) : List NestedKey → List V → Prop
  | nil : NKs K H [] []
  | cons {k : NestedKey} {v : V} {ks : List NestedKey} {vs : List V} : NK K H k v → NKs K H ks vs → NKs K H (k :: ks) (v :: vs)
end
mutual
theorem NK.mono {K : PySem.W.Frag} {H H' : Hp} (m : ∀ b xs, SqT K H b xs → SqT K H' b xs) : ∀ (k : NestedKey) (v : V), NK K H k v → NK K H' k v
  | .none, _, h => by cases h; exact .none
  | .num i, _, h => by cases h; exact .num i
  | .text x, _, h => by cases h; exact .text x
  | .tup ks, _, h => by
    cases h with
    | tup q r => exact .tup (m _ _ q) (NKs.mono m ks _ r)
theorem NKs.mono {K : PySem.W.Frag} {H H' : Hp} (m : ∀ b xs, SqT K H b xs → SqT K H' b xs) : ∀ (ks : List NestedKey) (vs : List V), NKs K H ks vs → NKs K H' ks vs
  | [], _, h => by cases h; exact .nil
  | k :: ks, _, h => by
    cases h with
    | cons a r => exact .cons (NK.mono m k _ a) (NKs.mono m ks _ r)
end
section
variable {X : Cx} {pins : List (Addr × Obj)} {σ : L2.St} {H : Hp} {s : Shared}
mutual
theorem nk_is (I : Inv X pins σ H s) : ∀ (k : NestedKey) (v : V) (u : Value), NK X.K H k v → RelV v u → NestedIs s.heap k u
  | .none, _, u, h, r => by
    cases h
    obtain rfl : u = Value.none := r
    exact .none
  | .num i, _, u, h, r => by
    cases h
    obtain ⟨t, rfl⟩ : ∃ t, u = Value.int i t := r
    exact .int i t
  | .text x, _, u, h, r => by
    cases h
    obtain ⟨t, rfl⟩ : ∃ t, u = Value.str x t := r
    exact .text x t
  | .tup ks, _, u, h, r => by
    cases h with
    | @tup a vs _ q rest =>
      obtain rfl : u = Value.ref a := r
      obtain ⟨its, rv, ⟨o, ho, hc, n, hd⟩, _⟩ := I.tuple q
      exact .tup ho hc hd (by simpa using nks_is I ks vs its rest rv)
theorem nks_is (I : Inv X pins σ H s) : ∀ (ks : List NestedKey) (vs : List V) (us : List Value), NKs X.K H ks vs → Vals vs us → NestedAll s.heap ks us
  | [], _, us, h, r => by
    cases h
    cases r
    exact .nil
  | k :: ks, _, us, h, r => by
    cases h with
    | cons a rest =>
      cases r with
      | cons ra rr => exact .cons (nk_is I k _ _ a ra) (nks_is I ks _ _ rest rr)
end
end
/-! ### the dict -/
abbrev Ent : Type := NestedKey × Addr × V
abbrev Raw : Type := NestedKey × Addr × Value
def KN : List Ent → List Raw → Prop := Paired fun (p : Ent) (q : Raw) => p.1 = q.1 ∧ p.2.1 = q.2.1 ∧ RelV p.2.2 q.2.2
def DO (P : Program) (w : World) (d : Addr) (kvs : List Ent) : HO := .ext fun h => (d == sysModules) = false ∧ kvs.length ≤ sizeLine ∧ ∃ xs : List Raw, KN kvs xs ∧
  ∃ (o : Obj) (es : Array DictEntry) (ep : Nat), h.get? d = some o ∧ o.ExactDict ∧ o.data = .dict es ep ∧ es.toList = xs.map (entryOfKey (nestedKind P w)) ∧ (xs.map (·.1)).Nodup
def KOks (K : PySem.W.Frag) (H : Hp) (kvs : List Ent) : Prop := ∀ p ∈ kvs, NK K H p.1 (.ref p.2.1) ∧ p.1.depth ≤ 8
theorem KOks.mono {K : PySem.W.Frag} {H H' : Hp} {kvs : List Ent} (h : KOks K H kvs) (m : ∀ b xs, SqT K H b xs → SqT K H' b xs) : KOks K H' kvs := fun p hp => ⟨NK.mono m _ _ (h p hp).1, (h p hp).2⟩
def valN (kvs : List Ent) (k : NestedKey) : Option V := (kvs.find? fun p => decide (p.1 = k)).map (·.2.2)
def setN (k : NestedKey) (v : V) (p : Ent) : Ent := if p.1 = k then (p.1, p.2.1, v) else p
def putN (kvs : List Ent) (k : NestedKey) (b : Addr) (v : V) : List Ent := if (valN kvs k).isSome = true then kvs.map (setN k v) else kvs ++ [(k, b, v)]
theorem KN.len : ∀ {kvs : List Ent} {xs : List Raw}, KN kvs xs → kvs.length = xs.length
  | _, _, .nil => rfl
  | _, _, .cons _ r => by rw [List.length_cons, List.length_cons, KN.len r]
theorem KN.val {k : NestedKey} : ∀ {kvs : List Ent} {xs : List Raw}, KN kvs xs → RelO (valN kvs k) ((atKey xs k).map (·.2))
  | _, _, .nil => by exact True.intro
  | _, _, @Paired.cons _ _ _ p q ps qs h r => by
    have ih := KN.val (k := k) r
    unfold valN atKey at ih ⊢
    by_cases c : p.1 = k
    · rw [List.find?_cons_of_pos (by exact decide_eq_true c), List.find?_cons_of_pos (by rw [← h.1]; exact decide_eq_true c)]
      exact h.2.2
    · rw [List.find?_cons_of_neg (by simpa using c), List.find?_cons_of_neg (by rw [← h.1]; simpa using c)]
      exact ih
theorem KN.rep {k : NestedKey} {v : V} {r : Value} (rv : RelV v r) : ∀ {kvs : List Ent} {xs : List Raw}, KN kvs xs → KN (kvs.map (setN k v)) (xs.map (putAt k r))
  | _, _, .nil => .nil
  | _, _, @Paired.cons _ _ _ p q ps qs h t => by
    refine .cons ?_ (KN.rep rv t)
    unfold setN putAt
    by_cases c : p.1 = k
    · rw [if_pos c, if_pos (by rw [← h.1]; exact c)]
      exact ⟨h.1, h.2.1, rv⟩
    · rw [if_neg c, if_neg (by rw [← h.1]; exact c)]
      exact h
theorem KN.snoc {p : Ent} {q : Raw} (h : p.1 = q.1 ∧ p.2.1 = q.2.1 ∧ RelV p.2.2 q.2.2) : ∀ {kvs : List Ent} {xs : List Raw}, KN kvs xs → KN (kvs ++ [p]) (xs ++ [q])
  | _, _, .nil => .cons h .nil
  | _, _, .cons a r => .cons a (KN.snoc h r)
theorem KN.put {k : NestedKey} {b : Addr} {v : V} {r : Value} (rv : RelV v r) {kvs : List Ent} {xs : List Raw} (h : KN kvs xs) : KN (putN kvs k b v) (storedH xs k b r) := by
  have e := (KN.val (k := k) h).isSome_eq
  rw [Option.isSome_map] at e
  unfold putN storedH
  rw [e]
  by_cases q : (atKey xs k).isSome = true
  · rw [if_pos q, if_pos q]
    exact h.rep rv
  · rw [if_neg q, if_neg q]
    exact h.snoc ⟨rfl, rfl, rv⟩
theorem putN_len (kvs : List Ent) (k : NestedKey) (b : Addr) (v : V) : (putN kvs k b v).length ≤ kvs.length + 1 := by
  unfold putN
  split
  · rw [List.length_map]
    omega
  · rw [List.length_append]
    exact Nat.le_refl _
theorem putN_ok {K : PySem.W.Frag} {H : Hp} {kvs : List Ent} {k : NestedKey} {b : Addr} {v : V} (h : KOks K H kvs) (hk : NK K H k (.ref b)) (hd : k.depth ≤ 8) : KOks K H (putN kvs k b v) := by
  unfold putN
  split
  · intro p hp
    obtain ⟨q, hq, rfl⟩ := List.mem_map.mp hp
    unfold setN
    split
    · exact h q hq
    · exact h q hq
  · intro p hp
    rcases List.mem_append.mp hp with q | q
    · exact h p q
    · rw [List.mem_singleton.mp q]
      exact ⟨hk, hd⟩
theorem do_new {P : Program} {w : World} {H : Hp} {h : Heap} {d : Addr} {kvs : List Ent} {xs : List Raw} (hs : (d == sysModules) = false) (hl : kvs.length ≤ sizeLine) (r : KN kvs xs) (dd : h.DictOfH (nestedKind P w) d xs) : ObjOk P w H h d (DO P w d kvs) := by
  obtain ⟨o, es, ep, h1, h2, h3, h4, _, h5⟩ := dd
  refine ⟨⟨hs, hl, xs, r, o, es, ep, h1, h2, h3, h4, h5⟩, ⟨o, h1⟩, ?_⟩
  rintro g1 g2 ⟨hs, hl, xs, r, o, es, ep, h1, h2⟩ kk
  exact ⟨hs, hl, xs, r, o, es, ep, kk o h1, h2⟩
section
variable {X : Cx} {pins : List (Addr × Obj)} {σ : L2.St} {H : Hp} {s : Shared} {d b : Addr} {kvs : List Ent} {k : NestedKey} {A : Around} {E : Value → Shared → Prop}
theorem do_at (I : Inv X pins σ H s) (e : Rd H d (DO X.prog X.w d kvs)) (ko : KOks X.K H kvs) : (d == sysModules) = false ∧ kvs.length ≤ sizeLine ∧ ∃ xs : List Raw, KN kvs xs ∧ s.heap.DictOfH (nestedKind X.prog X.w) d xs := by
  obtain ⟨⟨hs, hl, xs, r, o, es, ep, h1, h2, h3, h4, h5⟩, _, _⟩ := e.ok I.hok
  refine ⟨hs, hl, xs, r, o, es, ep, h1, h2, h3, h4, ?_, h5⟩
  have all : ∀ {l : List Ent} {m : List Raw}, KN l m → KOks X.K H l → ∀ x ∈ m, (nestedKind X.prog X.w).is s.heap x.1 x.2.1 := by
    intro l m q
    induction q with
    | nil => intro _ x hx; exact nomatch hx
    | @cons p q ps qs hq t ih =>
      intro ok x hx
      rcases List.mem_cons.mp hx with z | z
      · subst z
        obtain ⟨h1, h2⟩ := ok p List.mem_cons_self
        refine ⟨?_, by rw [← hq.1]; exact h2⟩
        rw [← hq.1, ← hq.2.1]
        exact nk_is I _ _ _ h1 rfl
      · exact ih (fun p hp => ok p (List.mem_cons_of_mem _ hp)) x z
  exact all r ko
theorem key_at (I : Inv X pins σ H s) (hk : NK X.K H k (.ref b)) (hd : k.depth ≤ 8) : (nestedKind X.prog X.w).is s.heap k b := ⟨nk_is I _ _ _ hk rfl, hd⟩
theorem room_at (hu : A.units + 9 < cLine) : (nestedKind X.prog X.w).room A.in1 := by
  show A.in1.units + 8 < cLine
  have : A.in1.units ≤ A.units + 1 := by first | exact Nat.le_refl _ | (unfold Around.in1; simp)
  omega
end
/-! ### rules -/
/-- {} -/
def tNewN (P : Program) (w : World) : TE := fun _ H Q => ∀ p, H p = none → Q (.ref p) (upd H p (DO P w p []))
theorem pe_dnewN {X : Cx} {pos : Pos} : PE X (.Dict [] [] pos) (tNewN X.prog X.w) := ⟨fun pins s σ H Q I h => by
  refine wpAny_Dict_empty ⟨.ref s.heap.objs.size, upd H s.heap.objs.size (DO X.prog X.w s.heap.objs.size []), ?_, rfl, h _ (I.hok.fresh (Nat.le_refl _))⟩
  refine I.laid (t' := s.toks) (fun _ _ q => Heap.get?_push_of_some _ q) (Nat.le_refl _) ?_
  exact do_new (xs := []) (beq_eq_false_iff_ne.mpr (Ne.symm (Nat.ne_of_lt I.big))) (Nat.zero_le _) .nil (Heap.DictOfH.new s.heap)⟩
/-- what is asked of a dict and a key -/
structure At (X : Cx) (H : Hp) (d b : Addr) (kvs : List Ent) (k : NestedKey) : Prop where
  dic : Rd H d (DO X.prog X.w d kvs)
  oks : KOks X.K H kvs
  key : NK X.K H k (.ref b)
  dep : k.depth ≤ 8
section
variable {X : Cx} {o i value e f : Expr} {td ty tv tx : TE} {pos pos' apos cpos : Pos}
def tGetN (X : Cx) (td ty : TE) : TE := fun σ H Q => td σ H fun x H1 => ty σ H1 fun y H2 => ∃ (d b : Addr) (kvs : List Ent) (k : NestedKey) (v : V), x = .ref d ∧ y = .ref b ∧ At X H2 d b kvs k ∧ valN kvs k = some v ∧ Q v H2
theorem pe_dgetN (hu : X.A.units + 9 < cLine) (ho : PE X o td) (hi : PE X i ty) (hs : NoSl i) : PE X (.Subscript o i pos) (tGetN X td ty) := by
  refine ⟨fun pins s σ H Q I h => ?_⟩
  refine subD_of PySem.F.slot_dict_getitem.lookup hs (thn (ho.run pins s σ H _ I h) fun u s1 ⟨x, H1, I1, rx, q1⟩ => thn (hi.run pins s1 σ H1 _ I1 q1) fun iv s2 ⟨y, H2, I2, ry, d, b, kvs, k, v, ex, ey, g, hv, q2⟩ => ?_)
  subst ex ey
  obtain rfl : u = Value.ref d := rx
  obtain rfl : iv = Value.ref b := ry
  obtain ⟨_, _, xs, r, dd⟩ := do_at I2 g.dic g.oks
  obtain ⟨w', hw, rw'⟩ := RelO.some_of (v := v) (o := (atKey xs k).map (·.2)) (by rw [← hv]; exact r.val)
  obtain ⟨p, hp, hp2⟩ := Option.map_eq_some_iff.mp hw
  refine ⟨dd.typeIs, wpAny_getItem_heap (room_at hu) (key_at I2 g.key g.dep) dd hp ?_⟩
  rw [hp2]
  exact ⟨v, H2, I2.tok _, rw', q2⟩
def rInN (X : Cx) (neg : Bool) : R2 := fun y x H Q => ∃ (d b : Addr) (kvs : List Ent) (k : NestedKey), x = .ref d ∧ y = .ref b ∧ At X H d b kvs k ∧ Q (.bl (if neg = true then !(valN kvs k).isSome else (valN kvs k).isSome)) H
theorem op_inN (hu : X.A.units + 9 < cLine) : OpR X (compareOp .In) (rInN X false) := by
  intro pins s σ H y x iv u Q I ry rx h
  obtain ⟨d, b, kvs, k, ex, ey, g, q⟩ := h
  subst ex ey
  obtain rfl : u = Value.ref d := rx
  obtain rfl : iv = Value.ref b := ry
  obtain ⟨hs, _, xs, r, dd⟩ := do_at I g.dic g.oks
  refine wpAny_in_heap (room_at hu) (key_at I g.key g.dep) hs dd ?_
  have z := (KN.val (k := k) r).isSome_eq
  rw [Option.isSome_map] at z
  exact ⟨.bl (valN kvs k).isSome, H, I.tok _, by rw [z]; rfl, q⟩
theorem op_notInN (hu : X.A.units + 9 < cLine) : OpR X (compareOp .NotIn) (rInN X true) := by
  intro pins s σ H y x iv u Q I ry rx h
  obtain ⟨d, b, kvs, k, ex, ey, g, q⟩ := h
  subst ex ey
  obtain rfl : u = Value.ref d := rx
  obtain rfl : iv = Value.ref b := ry
  obtain ⟨hs, _, xs, r, dd⟩ := do_at I g.dic g.oks
  refine wpAny_notIn_heap (room_at hu) (key_at I g.key g.dep) hs dd ?_
  have z := (KN.val (k := k) r).isSome_eq
  rw [Option.isSome_map] at z
  exact ⟨.bl (!(valN kvs k).isSome), H, I.tok _, by rw [z]; rfl, q⟩
def sPutN (X : Cx) (td ty tv : TE) : TS := fun D σ H => tv σ H fun v H1 => td σ H1 fun x H2 => ty σ H2 fun y H3 => ∃ (d b : Addr) (kvs : List Ent) (k : NestedKey), x = .ref d ∧ y = .ref b ∧ H3 d = some (DO X.prog X.w d kvs) ∧ KOks X.K H3 kvs ∧ NK X.K H3 k (.ref b) ∧ k.depth ≤ 8 ∧ kvs.length < sizeLine ∧
  D.nx σ (upd H3 d (DO X.prog X.w d (putN kvs k b v)))
theorem ps_dputN (hu : X.A.units + 9 < cLine) (ho : PE X o td) (hi : PE X i ty) (hv : PE X value tv) (hs : swapsWith value (some (.Subscript o i pos')) pos.line X.env = pure false) : PS X (.Assign [.Subscript o i pos'] value pos) (sPutN X td ty tv) := by
  refine ⟨fun pins s σ H D I h => ?_⟩
  refine wpAny_Assign_Subscript (thn (hv.run pins s σ H _ I h) fun r s1 ⟨v, H1, I1, rv, q1⟩ => thn (ho.run pins s1 σ H1 _ I1 q1) fun u s2 ⟨x, H2, I2, rx, q2⟩ => thn (hi.run pins s2 σ H2 _ I2 q2) fun iv s3 ⟨y, H3, I3, ry, d, b, kvs, k, ex, ey, hd, ok, hk, dp, hl, q3⟩ => ?_) hs
  subst ex ey
  obtain rfl : u = Value.ref d := rx
  obtain rfl : iv = Value.ref b := ry
  obtain ⟨h1, _, xs, rel, dd⟩ := do_at I3 (.inl hd) ok
  have hz : xs.length ≤ sizeLine := by
    rw [← rel.len]
    omega
  refine wpAny_setItem_heap (hsz := hz) (room_at hu) (key_at I3 hk dp) dd fun h' dd' same => ⟨σ, _, ?_, q3⟩
  have pl := putN_len kvs k b v
  have he : ∃ q, h'.get? d = some q := by
    obtain ⟨q, _, _, hq, _⟩ := dd'
    exact ⟨q, hq⟩
  exact d_write I3 (by rw [hd]; exact True.intro) same he (do_new h1 (by omega) (rel.put rv) dd')
def tSetdN (X : Cx) (td ty tx : TE) : TE := fun σ H Q => td σ H fun x H1 => ∃ d kvs0, x = .ref d ∧ H1 d = some (DO X.prog X.w d kvs0) ∧ KOks X.K H1 kvs0 ∧ ty σ H1 fun y H2 => tx σ H2 fun z H3 => ∃ (b : Addr) (kvs : List Ent) (k : NestedKey), y = .ref b ∧
  H3 d = some (DO X.prog X.w d kvs) ∧ KOks X.K H3 kvs ∧ NK X.K H3 k (.ref b) ∧ k.depth ≤ 8 ∧ kvs.length < sizeLine ∧ (∀ v, valN kvs k = some v → Q v H3) ∧ (valN kvs k = none → Q z (upd H3 d (DO X.prog X.w d (putN kvs k b z))))
theorem pe_dsetdN (hu : X.A.units + 9 < cLine) (ho : PE X o td) (he : PE X e ty) (hf : PE X f tx) (m : M2 X o "setdefault" apos e f cpos) : PE X (.Call (.Attribute o "setdefault" apos) [e, f] [] cpos) (tSetdN X td ty tx) := by
  refine ⟨fun pins s σ H Q I h => ?_⟩
  refine wpAny_Call_method m.base m.few m.line PySem.F.plainAttrs_dict PySem.F.slot_dict_setdefault PySem.F.type_dict_setdefault (thn (ho.run pins s σ H _ I h) fun u s1 ⟨x, H1, I1, rx, d, kvs0, ex, hd0, ok0, q1⟩ => ?_)
  subst ex
  obtain rfl : u = Value.ref d := rx
  obtain ⟨_, _, xs0, _, dd0⟩ := do_at I1 (.inl hd0) ok0
  refine ⟨dd0.typeIs, fun b0 q => ?_, ?_⟩
  · cases q
    obtain ⟨o0, _, _, z1, z2, _⟩ := dd0
    exact ⟨o0, z1, z2.2.1⟩
  rw [m.trees]
  refine Calls.callWith_builtin rfl (Calls.evalArgs_plain (Calls.spliced_cons (thn (he.run pins s1 σ H1 _ I1 q1) fun iv s2 ⟨y, H2, I2, ry, q2⟩ =>
    Calls.spliced_cons (thn (hf.run pins s2 σ H2 _ I2 q2) fun fv s3 ⟨z, H3, I3, rz, b, kvs, k, ey, hd, ok, hk, dp, hl, q3, q4⟩ => Calls.spliced_nil ?_))))
  subst ey
  obtain rfl : iv = Value.ref b := ry
  obtain ⟨h1, _, xs, rel, dd⟩ := do_at I3 (.inl hd) ok
  have hz : xs.length ≤ sizeLine := by
    rw [← rel.len]
    omega
  have rv := KN.val (k := k) rel
  refine call_setdefault_heap (hsz := hz) (room_at hu) (key_at I3 hk dp) h1 dd (fun p hp => ?_) fun hn h' dd' same => ?_
  · rw [hp] at rv
    cases hval : valN kvs k with
    | none => rw [hval] at rv; exact rv.elim
    | some v =>
      rw [hval] at rv
      exact ⟨v, H3, I3.tok _, rv, q3 v hval⟩
  · have hval : valN kvs k = none := by
      rw [hn] at rv
      cases hval : valN kvs k with
      | none => rfl
      | some v => rw [hval] at rv; exact rv.elim
    have pl := putN_len kvs k b z
    have he : ∃ q, h'.get? d = some q := by
      obtain ⟨q, _, _, hq, _⟩ := dd'
      exact ⟨q, hq⟩
    exact ⟨z, _, d_write I3 (by rw [hd]; exact True.intro) same he (do_new h1 (by omega) (rel.put rz) dd'), rz, q4 hval⟩
end
end ND
namespace ND
open PySem PySem.Spec PyProof.Rows L2
set_option autoImplicit false
/-! ### walking over the keys -/
/-- the keys of the locked dict, in their order: each its own tuple -/
def ItN (P : Program) (w : World) (d : Addr) (ob : Obj) (kvs : List Ent) : L2.It :=
  ⟨fun n H => H d = some (.frz ob (DO P w d kvs)) ∧ n < kvs.length, fun n H x H' => H' = H ∧ ∃ p, kvs[n]? = some p ∧ x = .ref p.2.1, fun n H => H d = some (.frz ob (DO P w d kvs)) ∧ kvs.length ≤ n⟩
theorem KN.get : ∀ {kvs : List Ent} {xs : List Raw}, KN kvs xs → ∀ (n : Nat) (p : Ent), kvs[n]? = some p → ∃ q, xs[n]? = some q ∧ p.1 = q.1 ∧ p.2.1 = q.2.1 ∧ RelV p.2.2 q.2.2
  | _, _, .nil, n, p, h => by simp at h
  | _, _, .cons a r, 0, p, h => by
    have e := Option.some.inj h
    subst e
    exact ⟨_, rfl, a⟩
  | _, _, .cons a r, n + 1, p, h => KN.get r n p h
theorem locked_at {X : Cx} {pins : List (Addr × Obj)} {σ : L2.St} {H : Hp} {s : Shared} {d : Addr} {ob : Obj} {kvs : List Ent} (I : Inv X pins σ H s) (h : H d = some (.frz ob (DO X.prog X.w d kvs))) :
    (d == sysModules) = false ∧ s.heap.get? d = some ob ∧ ob.ExactDict ∧ ∃ (es : Array DictEntry) (ep : Nat), ob.data = .dict es ep ∧ es.size = kvs.length ∧
      ∀ (n : Nat) (p : Ent), kvs[n]? = some p → ∃ en : DictEntry, es[n]? = some en ∧ en.key = .ref p.2.1 := by
  obtain ⟨at1, ⟨hs, _, xs, rel, o1, es, ep, at2, ex, dt, he, _⟩, _⟩ := I.hok d _ h
  rw [at1] at at2
  cases at2
  refine ⟨hs, at1, ex, es, ep, dt, ?_, fun n p hp => ?_⟩
  · rw [size_of_entries he, rel.len]
  · obtain ⟨q, hq, _, e2, _⟩ := KN.get rel n p hp
    have z := entry_at he n
    rw [hq] at z
    exact ⟨_, z, by rw [e2]; rfl⟩
theorem same_data {ob : Obj} {es es' : Array DictEntry} {ep ep' : Nat} (h : ob.data = .dict es ep) (h' : ob.data = .dict es' ep') : es' = es ∧ ep' = ep := by
  rw [h'] at h
  cases h
  exact ⟨rfl, rfl⟩
theorem turn_keysN {P : Program} {w : World} {K : PySem.W.Frag} {tg : Expr} {d : Addr} {ob : Obj} {es : Array DictEntry} {ep : Nat} {kvs : List Ent} (itr : Addr) (hob : ob.data = .dict es ep) : Turn P w K tg (ItN P w d ob kvs) [itr] itr (fun n h => h.IsKeyIter itr d n kvs.length ep) where
  mem := by simp
  obj := fun n h st b hb => by
    obtain rfl : b = itr := by simpa using hb
    obtain ⟨oi, z, _, dd⟩ := st
    exact ⟨oi, z, fun v q => by rw [dd] at q; cases q⟩
  keep := fun n h h' st kk => st.at fun oi z => kk itr (by simp) oi z
  item := by
    intro X hP hw hK hc n pins s σ H E I hf st hg
    subst hP hw hK
    obtain ⟨hd, hn⟩ := hg
    obtain ⟨g0, g1, g2, g3, g4, g5⟩ := hf itr (by simp)
    obtain ⟨_, atd, _, es', ep', dt', sz, ent⟩ := locked_at I hd
    obtain ⟨rfl, rfl⟩ := same_data hob dt'
    have hp : kvs[n]? = some kvs[n] := List.getElem?_eq_getElem hn
    obtain ⟨en, hen, hkey⟩ := ent n _ hp
    refine next_key_item st atd dt' sz hen fun h' st' sb => ?_
    have J : Inv X pins σ H { s with heap := h' } := I.turned (t' := s.toks) (fun b u hb z => (sb.2 b hb).trans z) g0 g1 g3 g4 g5
    obtain ⟨oi, z, cc, dd⟩ := id st'
    refine ⟨en.key, rfl, go_of (s := { s with heap := h' }) z cc dd (by decide) ⟨.ref kvs[n].2.1, H, J, hkey, ⟨rfl, kvs[n], hp, rfl⟩, st', fun b hb => (hf b hb).1⟩⟩
  done := by
    intro X hP hw hK hc n pins s σ H E I hf st hg
    subst hP hw hK
    obtain ⟨hd, hn⟩ := hg
    obtain ⟨g0, g1, g2, g3, g4, g5⟩ := hf itr (by simp)
    obtain ⟨_, atd, _, es', ep', dt', sz, ent⟩ := locked_at I hd
    obtain ⟨rfl, rfl⟩ := same_data hob dt'
    exact next_key_end (I.ok.hd hc) st atd dt' sz hn fun h' eb => ⟨rfl, I.turned (t' := s.toks) (fun b u hb z => eb b u hb z) g0 g1 g3 g4 g5⟩
  self := fun A n s Q E st h => by
    refine wpAny_pyIter_slot st.typeIs PySem.F.slot_dict_keyiterator_iter (wpAny_call_entry PySem.F.slot_dict_keyiterator_iter st.typeIs PySem.F.entry_dict_keyiterator_iter ?_ (PySem.F.args_dict_keyiterator_iter_1 _))
    show wpAny _ _ (ret (.ref itr)) _ _ s
    exact wpAny_pure ⟨_, rfl, "dict_keyiterator", _, st.typeIs, PySem.F.slot_dict_keyiterator_next.lookup, h⟩
def iKeysN (X : Cx) (td : TE) : TI := fun σ H R => td σ H fun x H1 => ∃ (d : Addr) (ob : Obj) (kvs : List Ent), x = .ref d ∧ H1 d = some (.frz ob (DO X.prog X.w d kvs)) ∧ R (ItN X.prog X.w d ob kvs) H1
theorem pi_keysN {X : Cx} {tg e : Expr} {td : TE} (he : PE X e td) : PI X tg e (iKeysN X td) := by
  refine ⟨fun pins s σ H R I h => ?_⟩
  refine thn (he.run pins s σ H _ I h) fun u s1 ⟨x, H1, J, rx, d, ob, kvs, ex, hd, q⟩ => ?_
  subst ex
  obtain rfl : u = Value.ref d := rx
  obtain ⟨hs, atd, exd, es, ep, dt, sz, _⟩ := locked_at J hd
  refine iter_keys hs atd exd dt (pi_one (tk := s1.toks) J _ (turn_keysN _ dt) ⟨_, Heap.get?_push_size _ rfl, rfl, ?_⟩ q)
  rw [sz] <;> rfl
theorem walk_keysN {P : Program} {w : World} {d : Addr} {ob : Obj} {kvs : List Ent} : Walk (ItN P w d ob kvs) kvs.length (fun H => H d = some (.frz ob (DO P w d kvs))) (fun n H x H' => H' = H ∧ ∃ p, kvs[n]? = some p ∧ x = .ref p.2.1) :=
  ⟨fun _ _ hn q => ⟨q, hn⟩, fun _ q => ⟨q, Nat.le_refl _⟩, fun _ _ _ _ _ _ y => y⟩
end ND
/-! sorted(xs, key=f): f a def of the program whose promise gives a text and leaves all as it was -/
namespace SK
open PySem PySem.Spec PyProof.Rows L2 PySem.W
set_option autoImplicit false
def leG (g : V → Str) : V → V → Bool := dataLe false fun x => PyData.str (g x)
def Rx (u : Value) (x : V) : Prop := RelV x u
theorem each_vals : ∀ {xs : List V} {us : List Value}, Vals xs us → EachIs Rx us xs
  | _, _, .nil => .nil
  | _, _, .cons h r => .cons h (each_vals r)
theorem vals_each : ∀ {xs : List V} {us : List Value}, EachIs Rx us xs → Vals xs us
  | _, _, .nil => .nil
  | _, _, .cons h r => .cons h (vals_each r)
theorem nf {a q : Addr} {n : Nat} (h1 : a < n) (h2 : n ≤ q) : q ≠ a := fun e => absurd (Nat.lt_of_lt_of_le h1 h2) (by rw [e]; exact Nat.lt_irrefl _)
structure Fresh (X : Cx) (pins : List (Addr × Obj)) (H : Hp) (q : Addr) : Prop where
  non : H q = none
  loc : q ≠ X.env.locals
  fs : q ∉ X.fs
  new : X.s_0.heap.objs.size ≤ q
  cel : ∀ x c, X.env.cells.lookup x = some c → c ≠ q
  pin : ∀ p ∈ X.pn ++ pins, p.1 ≠ q
section
variable {X : Cx} {pins : List (Addr × Obj)} {σ : L2.St} {H : Hp} {s : Shared}
theorem fresh_of (I : Inv X pins σ H s) {q : Addr} (h : s.heap.objs.size ≤ q) : Fresh X pins H q where
  non := I.hok.fresh h
  loc := nf I.lt h
  fs := I.nofs h
  new := Nat.le_trans I.sz h
  cel := fun x c hc => by
    obtain ⟨v, o, ho, _⟩ := I.cell x c hc
    exact (nf (Heap.lt_size ho) h).symm
  pin := fun p hp => (nf (Heap.lt_size (I.pin p hp).1) h).symm
/-- the key store of the sort: pinned with what it holds; the list itself: tracked to the object -/
def here (a : Addr) (o : Obj) : HO := .ext fun h => h.get? a = some o
theorem here_ok {P : Program} {w : World} {h : Heap} {a : Addr} {o : Obj} (e : h.get? a = some o) : ObjOk P w H h a (here a o) := ⟨e, ⟨o, e⟩, fun _ _ z k => k o z⟩
theorem here_at {P : Program} {w : World} {h : Heap} {a : Addr} {o : Obj} (x : HOk P w H h) (e : H a = some (here a o)) : h.get? a = some o := (x a _ e).1
theorem seq_list {vs : Array Value} {n : Nat} : (seqObj "list" vs n) = ({ cls := .type "list", data := .seq vs n } : Obj) := rfl
theorem sort_core {a f : Addr} {fd : FuncData} {k tk0 : Nat} {pn : Str} {sp : Sp} {xs : List V} {vs : List Value} {g : V → Str} {hC : Heap} {Q : Value → Shared → Prop} {E' : Value → Shared → Prop} (I : Inv X pins σ H s) (keepC : ∀ b u, s.heap.get? b = some u → hC.get? b = some u) (ha : s.heap.objs.size ≤ a) (at0 : hC.get? a = some (seqObj "list" vs.toArray 0)) (rv : Vals xs vs) (hL : xs.length ≤ sizeLine)
    (F : FnOk X.prog X.w X.K X.mg X.base CX0 k f fd [pn] sp) (hr : Room (k + 2) X.A) (hb : Binds X.K fd [pn] []) (hu : X.A.units + 4 < cLine)
    (hsp : ∀ x ∈ xs, ∀ H', Same H H' → sp [x] H' (fun v H2 => v = .str (g x) ∧ Same H' H2) (fun _ _ _ => False))
    (fin : ∀ (H2 : Hp) (q : Addr) (s2 : Shared), Inv X pins σ H2 s2 → Same H H2 → H q = none → H2 q = some (.lst (xs.mergeSort (leG g))) → Q (.ref q) s2) :
    wpAny (model X.prog X.w) X.A.in1.in1 (Builtin.«list.sort» ⟨[.ref a], [(Str.ofString "key", .ref f)]⟩) (fun f s' => f = .done (.ret .none) ∧ Q (.ref a) s') E' { s with heap := hC, toks := tk0 } := by
  have vl : xs.length = vs.length := rv.length
  rw [ksk_t1]
  obtain ⟨e1, at1⟩ : ∃ e1, (hC.update a (Obj.mapSeq fun _ => (#[] : Array Value))).get? a = some (seqObj "list" #[] e1) := ⟨_, get?_update_seq at0 fun _ => #[]⟩
  generalize eh : hC.update a (Obj.mapSeq fun _ => (#[] : Array Value)) = hA at at1
  have keepA : ∀ b u, s.heap.get? b = some u → hA.get? b = some u := fun b u q => by
    rw [← eh, Heap.get?_update_ne _ _ _ _ (nf (Heap.lt_size q) ha).symm]
    exact keepC b u q
  unfold ksk_tree
  refine wpAny_bind (listItems_at (s := { s with heap := hC, toks := tk0 }) at0 rfl ?_)
  refine wpAny_bind (listUpdate_at (s := { s with heap := hC, toks := tk0 }) at0 rfl ?_ (by rw [List.size_toArray, ← vl]; exact hL) (Nat.zero_le _))
  show wpAny _ _ _ _ _ { s with toks := tk0, heap := hC.update a (Obj.mapSeq fun _ => (#[] : Array Value)) }
  rw [eh]
  refine wpAny_bind (seqEpoch_at (s := { s with heap := hA, toks := tk0 }) at1 rfl ?_)
  refine wpAny_bind (wpAny_newTuple ?_ (by show vs.length ≤ _; rw [← vl]; exact hL))
  refine wpAny_bind (wpAny_newList ?_ (Nat.zero_le _))
  refine wpAny_holding ?_
  -- the heap with the list emptied, the tuple laid
  generalize eT : hA.push (seqObj "tuple" vs.toArray 0) = hT
  have atT : hT.get? a = some (seqObj "list" #[] e1) := by
    rw [← eT]
    exact Heap.get?_push_of_some _ at1
  have I1 : Inv X pins σ (upd H a (here a (seqObj "list" #[] e1))) { s with heap := hT, toks := tk0 } := by
    refine I.laid (fun b u q => ?_) ha (here_ok atT)
    rw [← eT]
    exact Heap.get?_push_of_some _ (keepA b u q)
  have Ha : H a = none := I.hok.fresh ha
  have sm1 : Same H (upd H a (here a (seqObj "list" #[] e1))) := fun b o q => by
    rw [upd_ne (ne_of_none q Ha)]
    exact q
  generalize eH1 : upd H a (here a (seqObj "list" #[] e1)) = H1 at I1 sm1
  have H1a : H1 a = some (here a (seqObj "list" #[] e1)) := by
    rw [← eH1]
    exact upd_same
  have fr := fresh_of I1 (Nat.le_refl _)
  show wpAny _ _ (ksk_rest a (.ref f) false vs.toArray e1 (.ref hT.objs.size)) _ _ { s with heap := hT.push (seqObj "list" #[] 0), toks := tk0 }
  have hTs : hT.objs.size = ({ s with heap := hT, toks := tk0 } : Shared).heap.objs.size := rfl
  generalize eS : hT.objs.size = kS at fr ⊢
  have ka : kS ≠ a := nf (Heap.lt_size atT) (Nat.le_of_eq eS)
  have I2 : Inv X ((kS, seqObj "list" #[] 0) :: pins) σ H1 { s with heap := hT.push (seqObj "list" #[] 0), toks := tk0 } := by
    have J : Inv X pins σ H1 { s with heap := hT.push (seqObj "list" #[] 0), toks := tk0 } := I1.kept (t' := tk0) fun b u q => Heap.get?_push_of_some _ q
    refine J.pins_of fun p hp => ?_
    rcases List.mem_cons.mp hp with e | e
    · rw [e]
      refine ⟨?_, fr.non, fr.loc, fr.fs, fun v z => by cases z⟩
      rw [← eS]
      exact Heap.get?_push_size _ rfl
    · exact J.pin p (List.mem_append_right _ e)
  unfold ksk_rest
  refine wpAny_bind (wpAny_rule ?_)
  first
    | rw [List.forIn_toArray]
    | (rw [← Array.forIn_toList]; simp only [List.toList_toArray])
  refine wpAny_bind (ksk_fold (fun n s' => ∃ (Hn : Hp) (kA : Array Value) (e : Nat), Inv X ((kS, seqObj "list" kA e) :: pins) σ Hn s' ∧ Same H1 Hn ∧ Vals ((xs.take n).map fun x => V.str (g x)) kA.toList) vs 0 _ ⟨H1, #[], 0, I2, Same.refl _, .nil⟩ ?turn ?over)
  case turn =>
    rintro j u s' hj ⟨Hn, kA, e, J, sm, rk⟩
    simp only [Nat.zero_add] at rk ⊢
    have jl : j < vs.length := (List.getElem?_eq_some_iff.mp hj).1
    obtain ⟨x, hx, rx⟩ : ∃ x, xs[j]? = some x ∧ RelV x u := by
      have hx : xs[j]? = some (xs[j]'(by omega)) := List.getElem?_eq_getElem (by omega)
      obtain ⟨u', hu', ru'⟩ := rv.get hx
      rw [hj] at hu'
      cases hu'
      exact ⟨_, hx, ru'⟩
    have xm : x ∈ xs := List.mem_of_getElem? hx
    have hrun : wpAny (model X.prog X.w) X.A.in1.in1 (call (.ref f) [u]) (fun v s2 => EP X ((kS, seqObj "list" kA e) :: pins) σ (fun v H2 => v = .str (g x) ∧ Same Hn H2) v s2) (fun _ _ => False) s' := by
      have hr2 : Room k X.A.in1.in1 := (show Room (k + 1) X.A.in1 from Room.in1 hr).in1
      refine wpAny_call (codeAny_mono (F.run X.A.in1.in1 X.stack s' Hn ⟨[u], []⟩ [u] [x] (fun v H2 => v = .str (g x) ∧ Same Hn H2) (fun _ _ _ => False) hr2 J.env0.in1.in1 ?_ (.cons rx .nil) (hsp x xm Hn (sm1.trans sm))) fun r s2 hq => ?_)
      · have b1 := hb s' [u] J.kIn rfl
        rw [List.append_nil] at b1
        exact b1
      · cases r with
        | error er => exact (hq : False)
        | ok fl =>
          cases fl with
          | ret v => exact J.after hq
          | next => exact False.elim hq
          | brk => exact False.elim hq
          | cont => exact False.elim hq
    refine wpAny_bind (wpAny_attempt (wpAny_mono hrun (fun v s2 hv => ?_) fun _ _ z => z.elim))
    obtain ⟨y, H2, J2, ry, ey, sm2⟩ := hv
    subst ey
    have pk := J2.pin (kS, seqObj "list" kA e) (List.mem_append_right _ List.mem_cons_self)
    have kl : kA.size ≤ vs.length := by
      have q1 := rk.length
      rw [List.length_map, List.length_take] at q1
      have q2 : kA.toList.length = kA.size := Array.length_toList
      omega
    obtain ⟨c2, hc2⟩ : ∃ c2, (s2.heap.update kS (Obj.mapSeq (·.push v))).get? kS = some (seqObj "list" (kA.push v) c2) := ⟨_, get?_update_seq pk.1 (·.push v)⟩
    have sb := Heap.SameBut.update s2.heap kS (Obj.mapSeq (·.push v))
    try dsimp only
    refine wpAny_bind (listUpdate_at pk.1 rfl ?_ (by rw [← vl] at kl; omega) (by rw [Array.size_push, ← vl] at *; omega))
    refine wpAny_pure ⟨rfl, H2, kA.push v, c2, ?_, sm.trans sm2, ?_⟩
    · have J3 : Inv X pins σ H2 s2 := J2.pins_of fun p hp => J2.pin p (List.mem_append_right _ (List.mem_cons_of_mem _ hp))
      have J4 := J3.turned (t' := s2.toks) (h' := s2.heap.update kS (Obj.mapSeq (·.push v))) (it := kS) (fun b o hb q => (sb.2 b hb).trans q) pk.2.1 fr.loc (.inr fr.new) fr.cel fr.pin
      refine J4.pins_of fun p hp => ?_
      rcases List.mem_cons.mp hp with q | q
      · rw [q]
        exact ⟨hc2, pk.2.1, fr.loc, fr.fs, fun v z => by cases z⟩
      · exact J4.pin p (List.mem_append_right _ q)
    · rw [List.take_add_one, hx, List.map_append, Array.toList_push]
      exact rk.append (.cons ry .nil)
  case over =>
    rintro s' ⟨Hn, kA, e, J, sm, rk⟩
    simp only [Nat.zero_add] at rk
    rw [← vl, List.take_length] at rk
    have pk := J.pin (kS, seqObj "list" kA e) (List.mem_append_right _ List.mem_cons_self)
    have ata : s'.heap.get? a = some (seqObj "list" #[] e1) := here_at J.hok (sm _ _ H1a)
    have ksz : kA.size = vs.length := by
      have q1 := rk.length
      rw [List.length_map] at q1
      have q2 : kA.toList.length = kA.size := Array.length_toList
      omega
    have eachK : EachIs (fun v d => ∃ as, Reads s'.heap v d as) kA.toList (xs.map fun x => PyData.str (g x)) := by
      have gen : ∀ (ys : List V) (us : List Value), Vals (ys.map fun x => V.str (g x)) us → EachIs (fun v d => ∃ as, Reads s'.heap v d as) us (ys.map fun x => PyData.str (g x)) := by
        intro ys
        induction ys with
        | nil =>
          intro us r
          cases r
          exact .nil
        | cons y ys ih =>
          intro us r
          cases r with
          | cons ry rr =>
            obtain ⟨t, rfl⟩ := ry
            exact .cons ⟨[], .str _ _⟩ (ih _ rr)
      exact gen xs _ rk
    have alikeK : AllAlike (xs.map fun x => PyData.str (g x)) := by
      intro d hd d' hd'
      obtain ⟨b, _, rfl⟩ := List.mem_map.mp hd
      obtain ⟨c, _, rfl⟩ := List.mem_map.mp hd'
      simp [alike]
    have sortK : Sortable (xs.map fun x => PyData.str (g x)) := by
      refine .inr fun d hd => ?_
      obtain ⟨b, _, rfl⟩ := List.mem_map.mp hd
      exact ⟨by simp, fun ys => by simp⟩
    have unitK : ∀ d ∈ xs.map (fun x => PyData.str (g x)), X.A.in1.in1.units + d.depth < cLine := by
      intro d hd
      obtain ⟨b, _, rfl⟩ := List.mem_map.mp hd
      have u1 : X.A.in1.in1.units ≤ X.A.units + 2 := by first | exact Nat.le_refl _ | simp [Around.in1]
      simp only [PyData.depth]
      omega
    try dsimp only
    refine wpAny_bind (listItems_at pk.1 rfl ?_)
    have hid : (hideAll s'.heap [kS]).get? kS = none := hideAll_none _ (by simp)
    refine keyH_end (κ := dataKind s'.heap (xs.map fun x => PyData.str (g x))) (h₁ := hideAll s'.heap [kS]) (fun b o _ q => of_hideAll _ q) hid pk.1 ata ka (SortsAt.data (s := s') eachK alikeK sortK unitK) ksz (by rw [← vl]; exact hL) fun h3 tk c kp at3 => ⟨rfl, ?_⟩
    have eo : EachIs Rx (sortVals (dataKind s'.heap (xs.map fun x => PyData.str (g x))) false kA.toList vs) (xs.mergeSort (leG g)) :=
      keyedOut_each (rev := false) (fun x : V => PyData.str (g x)) ⟨s'.heap, kA.toList, alikeK, rfl, eachK⟩ (each_vals rv)
    generalize sortVals (dataKind s'.heap (xs.map fun x => PyData.str (g x))) false kA.toList vs = out at at3 eo
    -- the key store is let go, then the list takes the items
    have J3 : Inv X pins σ Hn s' := J.pins_of fun p hp => J.pin p (List.mem_append_right _ (List.mem_cons_of_mem _ hp))
    have back : (h3.update a fun _ => seqObj "list" #[] e1).get? a = some (seqObj "list" #[] e1) := by
      exact Heap.get?_update_self _ at3 rfl
    have J4 := J3.turned (t' := tk) (h' := h3.update a fun _ => seqObj "list" #[] e1) (it := kS) (fun b o hb q => ?_) pk.2.1 fr.loc (.inr fr.new) fr.cel fr.pin
    · have lenO : (xs.mergeSort (leG g)).length ≤ sizeLine := by
        rw [List.length_mergeSort]
        exact hL
      have J5 := J4.write (t' := tk) (x := a) (e := a) (h' := h3) (o := .lst (xs.mergeSort (leG g))) (by rw [sm _ _ H1a]; exact True.intro) (.inl rfl) (fun b u hb q => ?_) ⟨_, at3⟩ ⟨lenO, out, c, vals_each eo, at3⟩
      · refine fin _ a _ J5 (fun b o q => ?_) Ha upd_same
        rw [upd_ne (ne_of_none q Ha)]
        exact sm _ _ (sm1 _ _ q)
      · rw [Heap.get?_update_ne _ _ _ _ hb] at q
        exact q
    · by_cases ba : b = a
      · rw [ba] at q ⊢
        rw [ata] at q
        rw [← Option.some.inj q]
        exact back
      · rw [Heap.get?_update_ne _ _ _ _ ba]
        refine kp b o ba ?_
        exact hideAll_get [kS] q (by simpa using hb)
theorem sorted_fn {l f : Addr} {fd : FuncData} {k : Nat} {pn : Str} {sp : Sp} {xs : List V} {vs : List Value} {g : V → Str} {Q : Value → Shared → Prop} {E : Value → Shared → Prop} (I : Inv X pins σ H s) (hl : s.heap.IsList l vs.toArray) (rv : Vals xs vs) (hL : xs.length ≤ sizeLine)
    (F : FnOk X.prog X.w X.K X.mg X.base CX0 k f fd [pn] sp) (hr : Room (k + 2) X.A) (hb : Binds X.K fd [pn] []) (hu : X.A.units + 4 < cLine)
    (hsp : ∀ x ∈ xs, ∀ H', Same H H' → sp [x] H' (fun v H2 => v = .str (g x) ∧ Same H' H2) (fun _ _ _ => False))
    (fin : ∀ (H2 : Hp) (q : Addr) (s2 : Shared), Inv X pins σ H2 s2 → Same H H2 → H q = none → H2 q = some (.lst (xs.mergeSort (leG g))) → Q (.ref q) s2) :
    wpAny (model X.prog X.w) X.A (call (.builtin "sorted") [.ref l] [(Str.ofString "key", .ref f)]) Q E s := by
  refine sorted_of_sort hl (by rw [← rv.length]; exact hL) (ksk_s1 _ _) (fun _ => ksk_l1 _ _) fun E' => ?_
  exact sort_core I (fun b u q => copyHeap_old q) (Nat.le_succ _) (copyHeap_at s.heap vs) rv hL F hr hb hu hsp fin
end
end SK
namespace SK
open PySem PySem.Spec PyProof.Rows L2 PySem.W
set_option autoImplicit false
/-- a tuple is read in one way -/
def TInj (K : PySem.W.Frag) (H : Hp) : Prop := ∀ (a : Addr) (xs ys : List V), SqT K H a xs → SqT K H a ys → xs = ys
def tSortFn (K : PySem.W.Frag) (sp : Sp) (t : TA) : TE := fun σ H Q => t σ H fun vs H1 => TInj K H1 → ∃ (l : Addr) (xs : List V) (g : V → Str), vs = [.ref l] ∧ SqL K H1 l xs ∧
  (∀ x ∈ xs, ∀ H', Same H1 H' → sp [x] H' (fun v H2 => v = .str (g x) ∧ Same H' H2) (fun _ _ _ => False)) ∧ ∀ H2 p, Same H1 H2 → H1 p = none → H2 p = some (.lst (xs.mergeSort (leG g))) → Q (.ref p) H2
section
variable {X : Cx} {p p2 pos kpos : Pos} {e : Expr} {t : TA} {k : Nat} {f : Addr} {fd : FuncData} {pn fn : Str} {sp : Sp}
theorem pe_sortedFn (F : FnOk X.prog X.w X.K X.mg X.base CX0 k f fd [pn] sp) (hr : Room (k + 2) X.A) (hb : Binds X.K fd [pn] []) (hgs : Gl X "sorted") (hms : X.mg "sorted" = none) (hgf : Gl X fn) (hmf : X.mg fn = some (.ref f)) (ha : PA X [e] t)
    (hdb : (fn == ("__debug__" : Str)) = false := by decide) (he : backTo pos (starEach [e] X.env) = (false, eval e X.env) :: backTo pos (starEach [] X.env) := by rfl) (hpl : (backTo pos (starEach [e] X.env)).any (·.1) = false := by rfl) :
    PE X (.Call (.Name "sorted" p) [e] [⟨some "key", .Name fn p2, kpos⟩] pos) (tSortFn X.K sp t) := by
  refine ⟨fun pins s σ H Q I h => ?_⟩
  refine wpAny_Call_Name_kw (ld_blt I hgs hms (u := .builtin "sorted") (by decide +kernel) ?_)
  refine PyProof.Rows.callWith_kw (thn (ha.run pos pins s σ H _ I h) fun us s1 ⟨vs, H1, J, r1, q1⟩ => ?_) he hpl (by rfl) (by rfl)
  show wpAny _ _ (evalAll [do let v ← eval (.Name fn p2) X.env; standAt pos; pure v]) _ _ s1
  refine wpAny_evalAll_cons (wpAny_bind (ld_glob J hgf hmf (wpAny_bind (wpAny_standAt (wpAny_pure (wpAny_evalAll_nil ?_)))) hdb))
  obtain ⟨l, xs, g, rfl, hs, hsp, q⟩ := q1 fun a xs ys h1 h2 => J.tuple_inj h1 h2
  obtain ⟨its, rv, hl, hz⟩ := J.list hs
  rw [Vals.ref1 r1]
  show wpAny _ _ (call (.builtin "sorted") [.ref l] [(Str.ofString "key", .ref f)]) _ _ _
  exact sorted_fn J hl.isList rv hz F hr hb (by have := hr.units; omega) hsp fun H2 a s2 J2 sm hn ha => ⟨.ref a, H2, J2, rfl, q H2 a sm hn ha⟩
end
end SK
/-! sorted(d, reverse=b), sorted(d, key=f), list(d): d a dict with tuple keys -/
namespace ND
open PySem PySem.Spec PyProof.Rows L2 PySem.W PySem.Calls
set_option autoImplicit false
def keyRefs (kvs : List Ent) : List Value := kvs.map fun p => Value.ref p.2.1
def keyVs (kvs : List Ent) : List V := kvs.map fun p => V.ref p.2.1
theorem keyVals : ∀ kvs : List Ent, Vals (keyVs kvs) (keyRefs kvs)
  | [] => .nil
  | _ :: r => .cons rfl (keyVals r)
section
variable {X : Cx} {pins : List (Addr × Obj)} {σ : L2.St} {H : Hp} {s : Shared} {d : Addr} {kvs : List Ent}
theorem raw_at (I : Inv X pins σ H s) (hd : Rd H d (DO X.prog X.w d kvs)) : (d == sysModules) = false ∧ kvs.length ≤ sizeLine ∧ ∃ (es : Array DictEntry) (ep : Nat), s.heap.DictRaw d es ep ∧ es.size = kvs.length ∧ ∀ (n : Nat) (p : Ent), kvs[n]? = some p → ∃ en : DictEntry, es[n]? = some en ∧ en.key = .ref p.2.1 := by
  obtain ⟨⟨hs, hl, xs, rel, o, es, ep, h1, h2, h3, he, _⟩, _, _⟩ := hd.ok I.hok
  refine ⟨hs, hl, es, ep, ⟨o, h1, h2, h3⟩, ?_, fun n p hp => ?_⟩
  · rw [size_of_entries he, rel.len]
  · obtain ⟨q, hq, _, e2, _⟩ := KN.get rel n p hp
    have z := entry_at he n
    rw [hq] at z
    exact ⟨_, z, by rw [e2]; rfl⟩
theorem items_keys {es : Array DictEntry} {acc : Array Value} (sz : es.size = kvs.length) (ent : ∀ (n : Nat) (p : Ent), kvs[n]? = some p → ∃ en : DictEntry, es[n]? = some en ∧ en.key = .ref p.2.1) (ha : ItemsOf (fun i v => ∃ hi : i < es.size, v = es[i].key) acc es.size) : acc.toList = keyRefs kvs := by
  refine List.ext_getElem? fun n => ?_
  have asz : acc.toList.length = kvs.length := by
    have q : acc.toList.length = acc.size := Array.length_toList
    have := ha.1
    omega
  by_cases hn : n < kvs.length
  · have hp : kvs[n]? = some kvs[n] := List.getElem?_eq_getElem hn
    obtain ⟨en, hen, hk⟩ := ent n _ hp
    have hv : acc.toList[n]? = some (acc.toList[n]'(by omega)) := List.getElem?_eq_getElem (by omega)
    obtain ⟨hi, e⟩ := ha.2 n _ (by rw [← Array.getElem?_toList]; exact hv)
    have e2 : es[n] = en := by
      have := Array.getElem?_eq_getElem (xs := es) (i := n) hi
      rw [hen] at this
      exact (Option.some.inj this).symm
    rw [hv, e, e2, hk]
    unfold keyRefs
    rw [List.getElem?_map, hp]
    rfl
  · unfold keyRefs
    rw [List.getElem?_map, List.getElem?_eq_none (by omega), List.getElem?_eq_none (by omega)]
    rfl
theorem dict_sorted {kw : List (Str × Value)} {Q : Value → Shared → Prop} {E : Value → Shared → Prop} (I : Inv X pins σ H s) (hd : Rd H d (DO X.prog X.w d kvs)) (calm : X.calm = true) (ha1 : argsOk "sorted" ⟨[.ref d], kw⟩) (ha2 : ∀ x, argsOk "list.sort" ⟨[.ref x], kw⟩)
    (body : ∀ s1 : Shared, Inv X pins σ H s1 → ∀ E' : Value → Shared → Prop,
      wpAny (model X.prog X.w) X.A.in1.in1 (Builtin.«list.sort» ⟨[.ref s1.heap.objs.size], kw⟩) (fun f s' => f = .done (.ret .none) ∧ Q (.ref s1.heap.objs.size) s') E' { s1 with heap := s1.heap.push (seqObj "list" (keyRefs kvs).toArray 0) }) :
    wpAny (model X.prog X.w) X.A (call (.builtin "sorted") [.ref d] kw) Q E s := by
  obtain ⟨lo, hl, es, ep, raw, sz, ent⟩ := raw_at I hd
  refine call_function_entry_kw kind_sorted plain_sorted entry_sorted ha1 ?_
  unfold Builtin.«sorted»
  refine wpAny_bind (m := checkCount "sorted" 1 1 _) (wpAny_pure ?_)
  refine wpAny_bind (kdu_collect (A := X.A.in1) (KdlSrc.rawDict (prog := X.prog) (w := X.w) (es := es) (ep := ep) lo) (I.ok.hd calm) raw (by rw [sz]; exact hl) fun h' tk acc kp items => ?_)
  rw [items_keys sz ent items]
  have kl : (keyRefs kvs).length ≤ sizeLine := by
    unfold keyRefs
    rw [List.length_map]
    exact hl
  refine wpAny_bind (wpAny_newList ?_ kl)
  have J : Inv X pins σ H { s with heap := h', toks := tk } := I.kept kp
  have at0 : (h'.push (seqObj "list" (keyRefs kvs).toArray 0)).get? h'.objs.size = some (seqObj "list" (keyRefs kvs).toArray 0) := Heap.get?_push_size _ rfl
  refine wpAny_bind (wpAny_holding (wpAny_call_entry_kw slot_list_sort ⟨_, at0, rfl⟩ entry_list_sort ?inner (ha2 _)))
  case inner =>
    refine wpAny_mono (body { s with heap := h', toks := tk } J _) (fun f s' hf => ?_) fun _ _ e => e
    obtain ⟨rfl, hq⟩ := hf
    exact ⟨_, rfl, wpAny_pure ⟨_, rfl, hq⟩⟩
/-! ### sorted(d, reverse=b) -/
mutual
theorem NK.dp {K : PySem.W.Frag} {H : Hp} : ∀ (k : NestedKey) (v : V), NK K H k v → Dp K H v k.data
  | .none, _, h => by cases h; exact .non
  | .num i, _, h => by cases h; exact .int i
  | .text x, _, h => by cases h; exact .str x
  | .tup ks, _, h => by
    cases h with
    | tup q r => exact .tup q (NKs.dp ks _ r)
theorem NKs.dp {K : PySem.W.Frag} {H : Hp} : ∀ (ks : List NestedKey) (vs : List V), NKs K H ks vs → DpAll K H vs (NestedKey.datas ks)
  | [], _, h => by cases h; exact .nil
  | k :: ks, _, h => by
    cases h with
    | cons a r => exact .cons (NK.dp k _ a) (NKs.dp ks _ r)
end
def Rr (u : Value) (p : Ent) : Prop := u = .ref p.2.1
theorem each_refs : ∀ kvs : List Ent, EachIs Rr (keyRefs kvs) kvs
  | [] => .nil
  | _ :: r => .cons rfl (each_refs r)
theorem vals_refs : ∀ {us : List Value} {ps : List Ent}, EachIs Rr us ps → Vals (keyVs ps) us
  | _, _, .nil => .nil
  | _, _, .cons h r => .cons h (vals_refs r)
def rSortD (X : Cx) (b : Bool) : List V → List V → Hp → VK → Prop := fun vs zs H Q => ∃ (d : Addr) (kvs : List Ent), vs = [V.ref d] ∧ zs = [.bl b] ∧ Rd H d (DO X.prog X.w d kvs) ∧ KOks X.K H kvs ∧ AllAlike (kvs.map fun p => p.1.data) ∧ Sortable (kvs.map fun p => p.1.data) ∧ (∀ p ∈ kvs, p.1.data.depth ≤ 9) ∧
  ∀ p, H p = none → Q (.ref p) (upd H p (.lst (keyVs (kvs.mergeSort (dataLe b fun p => p.1.data)))))
theorem cr_sortedD {b : Bool} (calm : X.calm = true) (hu : X.A.units + 64 < cLine) : CallRK X (.builtin "sorted") [Str.ofString "reverse"] (rSortD X b) := by
  intro pins s σ H vs zs us ws Q I r rz h
  obtain ⟨d, kvs, rfl, rfl, hd, ok, al, so, dp, q⟩ := h
  obtain rfl := Vals.ref1 r
  obtain ⟨w1, rfl, e1⟩ := vals1 rz
  obtain rfl : w1 = Value.bool b := e1
  have hl : kvs.length ≤ sizeLine := (raw_at I hd).2.1
  refine dict_sorted I hd calm (args_sorted_rev _ _) (fun _ => args_list_sort_rev _ _) fun s1 J E' => ?_
  have at0 : (s1.heap.push (seqObj "list" (keyRefs kvs).toArray 0)).get? s1.heap.objs.size = some (seqObj "list" (keyRefs kvs).toArray 0) := Heap.get?_push_size _ rfl
  have er : EachIs (fun v p => ∃ as, Reads (sortingHeap (s1.heap.push (seqObj "list" (keyRefs kvs).toArray 0)) s1.heap.objs.size (keyRefs kvs)) v p.1.data as) (keyRefs kvs) kvs := by
    have gen : ∀ l : List Ent, KOks X.K H l → EachIs (fun v p => ∃ as, Reads (sortingHeap (s1.heap.push (seqObj "list" (keyRefs kvs).toArray 0)) s1.heap.objs.size (keyRefs kvs)) v p.1.data as) (keyRefs l) l := by
      intro l
      induction l with
      | nil => intro _; exact .nil
      | cons p l ih =>
        intro o
        refine .cons ?_ (ih fun x hx => o x (List.mem_cons_of_mem _ hx))
        obtain ⟨as, rd⟩ := Dp.reads J _ _ _ (NK.dp _ _ (o p List.mem_cons_self).1) rfl
        exact ⟨as, PyProof.Rows.Reads.keeps (fun b o e => sortingHeap_old (Nat.ne_of_lt (Heap.lt_size e)) (Heap.get?_push_of_some _ e)) rd⟩
    exact gen kvs ok
  have un : ∀ x ∈ kvs.map (fun p => p.1.data), X.A.in1.in1.units + x.depth < cLine := by
    intro x hx
    obtain ⟨p, hp, rfl⟩ := List.mem_map.mp hx
    have := dp p hp
    have u1 : X.A.in1.in1.units ≤ X.A.units + 2 := by first | exact Nat.le_refl _ | simp [Around.in1]
    omega
  have kl : (keyRefs kvs).length ≤ sizeLine := by
    unfold keyRefs
    rw [List.length_map]
    exact hl
  refine list_sort_rev_vals (s := { s1 with heap := s1.heap.push (seqObj "list" (keyRefs kvs).toArray 0) }) at0 (SortsAt.data (s := { s1 with heap := sortingHeap (s1.heap.push (seqObj "list" (keyRefs kvs).toArray 0)) s1.heap.objs.size (keyRefs kvs) }) (each_map (R := fun v x => ∃ as, Reads (sortingHeap (s1.heap.push (seqObj "list" (keyRefs kvs).toArray 0)) s1.heap.objs.size (keyRefs kvs)) v x as) (fun p : Ent => p.1.data) er) al so un) kl ⟨rfl, ?_⟩
  have eo := sortVals_data b (each_refs kvs) er al
  generalize sortVals (dataKind (sortingHeap (s1.heap.push (seqObj "list" (keyRefs kvs).toArray 0)) s1.heap.objs.size (keyRefs kvs)) (kvs.map fun p => p.1.data)) b (keyRefs kvs) (keyRefs kvs) = out at eo ⊢
  obtain ⟨c, hc⟩ := PyProof.Rows.sortedHeap_at (vs := keyRefs kvs) (out := out.toArray) at0
  refine ⟨.ref s1.heap.objs.size, upd H s1.heap.objs.size (.lst (keyVs (kvs.mergeSort (dataLe b fun p => p.1.data)))), J.laid (t' := s1.toks) (fun b u e => ?_) (Nat.le_refl _) ⟨?_, out, c, vals_refs eo, hc⟩, rfl, q _ (J.hok.fresh (Nat.le_refl _))⟩
  · have lt := Heap.lt_size e
    rw [PyProof.Rows.sortedHeap_old (Nat.ne_of_lt lt) (Nat.lt_of_lt_of_le lt (by rw [size_push']; exact Nat.le_succ _))]
    exact Heap.get?_push_of_some _ e
  · unfold keyVs
    rw [List.length_map, List.length_mergeSort]
    exact hl
/-! ### sorted(d, key=f) -/
def tSortDFn (X : Cx) (sp : Sp) (t : TA) : TE := fun σ H Q => t σ H fun vs H1 => SK.TInj X.K H1 → ∃ (d : Addr) (kvs : List Ent) (g : V → Str), vs = [.ref d] ∧ Rd H1 d (DO X.prog X.w d kvs) ∧
  (∀ x ∈ keyVs kvs, ∀ H', Same H1 H' → sp [x] H' (fun v H2 => v = .str (g x) ∧ Same H' H2) (fun _ _ _ => False)) ∧ ∀ H2 p, Same H1 H2 → H1 p = none → H2 p = some (.lst ((keyVs kvs).mergeSort (SK.leG g))) → Q (.ref p) H2
theorem pe_sortedDFn {p p2 pos kpos : Pos} {e : Expr} {t : TA} {k : Nat} {f : Addr} {fd : FuncData} {pn fn : Str} {sp : Sp} (calm : X.calm = true) (F : FnOk X.prog X.w X.K X.mg X.base CX0 k f fd [pn] sp) (hr : Room (k + 2) X.A) (hb : Binds X.K fd [pn] []) (hgs : Gl X "sorted") (hms : X.mg "sorted" = none) (hgf : Gl X fn) (hmf : X.mg fn = some (.ref f)) (ha : PA X [e] t)
    (hdb : (fn == ("__debug__" : Str)) = false := by decide) (he : backTo pos (starEach [e] X.env) = (false, eval e X.env) :: backTo pos (starEach [] X.env) := by rfl) (hpl : (backTo pos (starEach [e] X.env)).any (·.1) = false := by rfl) :
    PE X (.Call (.Name "sorted" p) [e] [⟨some "key", .Name fn p2, kpos⟩] pos) (tSortDFn X sp t) := by
  refine ⟨fun pins s σ H Q I h => ?_⟩
  refine wpAny_Call_Name_kw (ld_blt I hgs hms (u := .builtin "sorted") (by decide +kernel) ?_)
  refine PyProof.Rows.callWith_kw (thn (ha.run pos pins s σ H _ I h) fun us s1 ⟨vs, H1, J, r1, q1⟩ => ?_) he hpl (by rfl) (by rfl)
  show wpAny _ _ (evalAll [do let v ← eval (.Name fn p2) X.env; standAt pos; pure v]) _ _ s1
  refine wpAny_evalAll_cons (wpAny_bind (ld_glob J hgf hmf (wpAny_bind (wpAny_standAt (wpAny_pure (wpAny_evalAll_nil ?_)))) hdb))
  obtain ⟨d, kvs, g, rfl, hd, hsp, q⟩ := q1 fun a xs ys h1 h2 => J.tuple_inj h1 h2
  have hl : (keyVs kvs).length ≤ sizeLine := by
    unfold keyVs
    rw [List.length_map]
    exact (raw_at J hd).2.1
  rw [Vals.ref1 r1]
  show wpAny _ _ (call (.builtin "sorted") [.ref d] [(Str.ofString "key", .ref f)]) _ _ _
  refine dict_sorted J hd calm (ksk_s1 _ _) (fun _ => ksk_l1 _ _) fun s2 J2 E' => ?_
  exact SK.sort_core (Q := EP X pins σ Q) J2 (fun b u e => Heap.get?_push_of_some _ e) (Nat.le_refl _) (Heap.get?_push_size _ rfl) (keyVals kvs) hl F hr hb (by have := hr.units; omega) hsp fun H2 a s3 J3 sm hn ha => ⟨.ref a, H2, J3, rfl, q H2 a sm hn ha⟩
/-! ### list(d) -/
def rListD (X : Cx) : List V → Hp → VK → Prop := fun vs H Q => ∃ (d : Addr) (kvs : List Ent), vs = [V.ref d] ∧ Rd H d (DO X.prog X.w d kvs) ∧ ∀ p, H p = none → Q (.ref p) (upd H p (.lst (keyVs kvs)))
theorem cr_listD (calm : X.calm = true) : CallR X (.type "list") (rListD X) := by
  intro pins s σ H vs us Q I r h
  obtain ⟨d, kvs, rfl, hd, q⟩ := h
  obtain rfl := Vals.ref1 r
  obtain ⟨lo, hl, es, ep, raw, sz, ent⟩ := raw_at I hd
  refine kdl_call (KdlSrc.rawDict (prog := X.prog) (w := X.w) (es := es) (ep := ep) lo) (I.ok.hd calm) raw (by rw [sz]; exact hl) fun h' tk acc c kp at0 items => ?_
  have e := items_keys sz ent items
  have at1 : h'.get? s.heap.objs.size = some { cls := .type "list", dict := none, data := .seq (keyRefs kvs).toArray c, slots := #[] } := by
    rw [at0, ← e]
  refine ⟨.ref s.heap.objs.size, upd H s.heap.objs.size (.lst (keyVs kvs)), I.laid (t' := tk) kp (Nat.le_refl _) ⟨?_, keyRefs kvs, c, keyVals kvs, at1⟩, rfl, q _ (I.hok.fresh (Nat.le_refl _))⟩
  unfold keyVs
  rw [List.length_map]
  exact hl
end
end ND
/-! {k: v for ..} with keys that are nested tuples -/
namespace ND
open PySem PySem.Spec PyProof.Rows L2
set_option autoImplicit false
section
variable {X : Cx}
/-- one more pair, put in by the comprehension -/
theorem putD {pins : List (Addr × Obj)} {σ : L2.St} {H : Hp} {s : Shared} {E : Value → Shared → Prop} {D b : Addr}
    {kvs : List Ent} {k : NestedKey} {v : V} {r : Value} {Q : Unit → Shared → Prop} (hu : X.A.units + 9 < cLine)
    (I : Inv X pins σ H s) (g : H D = some (DO X.prog X.w D kvs)) (oks : KOks X.K H kvs) (key : NK X.K H k (.ref b))
    (dep : k.depth ≤ 8) (few : kvs.length < sizeLine) (rv : RelV v r)
    (q : ∀ s', Inv X pins σ (upd H D (DO X.prog X.w D (putN kvs k b v))) s' → Q () s') :
    wpAny (model X.prog X.w) X.A (dictSet D (.ref b) r) Q E s := by
  obtain ⟨nsys, _, raws, rel, dd⟩ := do_at I (.inl g) oks
  have rl : raws.length ≤ sizeLine := by
    have := rel.len
    omega
  have room : (nestedKind X.prog X.w).room X.A := by
    show X.A.units + 8 < cLine
    omega
  refine wpAny_dictSet_heap (hsz := rl) room (key_at I key dep) dd fun h1 dd1 but => q _ ?_
  have has : ∃ o, h1.get? D = some o := by
    obtain ⟨o, _, _, e, _⟩ := dd1
    exact ⟨o, e⟩
  have le := putN_len kvs k b v
  exact d_write I (by rw [g]; exact True.intro) but has (do_new nsys (by omega) (rel.put rv) dd1)
/-- what a turn leaves: the pair in the dict D, then on -/
def PutIn (P : Program) (w : World) (K : PySem.W.Frag) (D : Addr) (y z : V) (H : Hp) (Nx : Hp → Prop) : Prop :=
  ∃ (b : Addr) (kvs : List Ent) (k : NestedKey), y = .ref b ∧ H D = some (DO P w D kvs) ∧ KOks K H kvs ∧
    NK K H k (.ref b) ∧ k.depth ≤ 8 ∧ kvs.length < sizeLine ∧ Nx (upd H D (DO P w D (putN kvs k b z)))
def TurnD (P : Program) (w : World) (K : PySem.W.Frag) (D : Addr) (g : TG) (tt : TT) (tk tv : TE) (vs : List Nat) (σ : L2.St) (Nx : Hp → Prop) (x : V) (H : Hp) : Prop :=
  g x (wipe σ vs) H fun σ2 H2 => wipe σ2 vs = wipe σ vs ∧ tt σ2 H2 fun b H3 =>
    if b = true then tk σ2 H3 fun y H4 => tv σ2 H4 fun z H5 => PutIn P w K D y z H5 Nx else Nx H3
def tDcN (P : Program) (w : World) (K : PySem.W.Frag) (wi : TI) (g : TG) (tt : TT) (tk tv : TE) (vs : List Nat) : TE := fun σ H Q => wi σ H fun J H1 =>
  ∀ D, H1 D = none → ∃ W : Nat → Nat → Hp → Prop, (∃ m, W 0 m (upd H1 D (DO P w D []))) ∧ ∀ i m H, W i m H →
    (J.stop i H ∧ Q (.ref D) H) ∨ (J.go i H ∧ ∃ Nx : Hp → Prop, (∀ H', Nx H' → ∃ m', m' < m ∧ W (i + 1) m' H') ∧
      ∀ x H', J.yld i H x H' → TurnD P w K D g tt tk tv vs σ Nx x H')
def InBlk (X : Cx) (scope : Scope) (p : Cx → Prop) : Prop :=
  ∀ (s : Shared) (H : Hp) (C : Addr) (cl : List (Str × Addr)) (fp : List Addr), p (X.blk s H scope (compEnvC scope cl C X.env) fp)
/-- a run that raises nothing, under any way to raise -/
theorem calmE {α : Type} {t : Sem α} {Q Q' : α → Shared → Prop} {M : Model} {A : Around} {E E' : Value → Shared → Prop} {s : Shared}
    (hx : ∀ v s, E v s → False) (h : wpAny M A t Q E s) (hQ : ∀ a s, Q a s → Q' a s) : wpAny M A t Q' E' s :=
  wpAny_mono h hQ fun _ _ z => (hx _ _ z).elim
/-- one turn of the block -/
theorem turnD {Y : Cx} {pins : List (Addr × Obj)} {kx vx tg : PySem.Expr} {ifs : List PySem.Expr} {g : TG} {tt : TT} {tk tv : TE} {vs : List Nat} {σ : L2.St} {D : Addr} {Nx : Hp → Prop} {x : V} {u : Value} {s : Shared} {H : Hp}
    {m : Nat} {Iv : Nat → Shared → Prop} {E : Value → Shared → Prop} (hx : ∀ v s, Y.xe v s → False) (hu : Y.A.units + 9 < cLine) (pg : PG Y tg g) (pt : PTs Y ifs tt) (pk : PE Y kx tk) (pv : PE Y vx tv)
    (I : Inv Y pins (wipe σ vs) H s) (rx : RelV x u) (q : TurnD Y.prog Y.w Y.K D g tt tk tv vs σ Nx x H)
    (fin : ∀ σ' s' H', wipe σ' vs = wipe σ vs → Inv Y pins σ' H' s' → Nx H' → ∃ j, j < m ∧ Iv j s') :
    wpAny (model Y.prog Y.w) Y.A (assign tg Y.env u) (fun _ t1 =>
      wpAny (model Y.prog Y.w) Y.A (forIn ifs true fun c r => if r = true then do let ok ← isTrue c Y.env (eval c Y.env); pure (ForInStep.yield ok) else pure (ForInStep.yield r)) (fun ok t2 =>
        if ok = true then
          wpAny (model Y.prog Y.w) Y.A (eval kx Y.env) (fun kv t3 =>
            wpAny (model Y.prog Y.w) Y.A (eval vx Y.env) (fun vv t4 =>
              wpAny (model Y.prog Y.w) Y.A (dictSet D kv vv) (fun _ t5 => ∃ j, j < m ∧ Iv j t5) E t4) E t3) E t2
        else ∃ j, j < m ∧ Iv j t2) E t1) E s := by
  refine calmE hx (pg.run _ s _ H x u _ I rx q) fun _ t1 ⟨σ1, H1, I1, w1, q1⟩ => ?_
  refine calmE hx (pt.run _ t1 σ1 H1 _ I1 q1) fun b t2 ⟨H2, I2, q2⟩ => ?_
  cases b
  · exact fin σ1 t2 H2 w1 I2 q2
  · refine calmE hx (pk.run _ t2 σ1 H2 _ I2 q2) fun kv t3 ⟨y, H3, I3, ry, q3⟩ => ?_
    refine calmE hx (pv.run _ t3 σ1 H3 _ I3 q3) fun vv t4 ⟨z, H4, I4, rz, b, kvs, k, ey, gD, oks, key, dep, few, nx⟩ => ?_
    subst ey
    obtain rfl : kv = Value.ref b := ry
    exact putD hu I4 gD oks key dep few rz fun t5 I5 => fin σ1 t5 _ w1 I5 nx
/-- {k: v for target in iter if ..}: its value -/
theorem pe_dcN {kx vx tg iter : PySem.Expr} {ifs : List PySem.Expr} {scope : Scope} {own : List (Str × Nat)} {pos : Pos} {wi : TI} {g : TG} {tt : TT} {tk tv : TE}
    (hu : X.A.units + 9 < cLine) (hc : X.calm = true) (hN : X.N.Nodup) (hi : PI X tg iter wi) (ok : BlkOk X.N X.env.scope scope own)
    (hg : InBlk X scope fun Y => PG Y tg g) (ht : InBlk X scope fun Y => PTs Y ifs tt) (hk : InBlk X scope fun Y => PE Y kx tk) (hv : InBlk X scope fun Y => PE Y vx tv)
    (hs : ∀ x, foldedSetIterable iter X.env x = pure x := by intro _; rfl) :
    PE X (.DictComp kx vx [⟨tg, iter, ifs, 0⟩] scope pos) (tDcN X.prog X.w X.K wi g tt tk tv (own.map (·.2))) := by
  refine ⟨fun pins s σ H Q I h => ?_⟩
  rw [arm_eval_DictComp]
  have frees : ∀ y ∈ scope.names, y.2 = .free → ∃ c, X.env.cells.lookup y.1 = some c := fun y hy e =>
    (ok.free y hy e).elim (fun k => I.ok.has _ (.inl k)) (fun k => I.ok.has _ (.inr k))
  refine wpAny_comprehension_free (use := none) rfl hs (closure_ok frees) ok.kind (fun y hy e => (ok.uniq y hy).trans (congrArg some e)) ?_
  refine thn (hi.run pins s σ H _ I h) fun xv s1 hx => thn hx fun itv s2 ⟨it, fp, tn, J, H2, e, I2, T, st2, f2, q⟩ => ?_
  subst e
  refine wpAny_newObj_type (newEnv_comp ?_)
  obtain ⟨nd, end_⟩ : ∃ d : Obj, d = { cls := .type "dict", data := .dict #[] } := ⟨_, rfl⟩
  rw [← end_]
  obtain ⟨s3, e3⟩ : ∃ t : Shared, t = { s2 with heap := s2.heap.push nd } := ⟨_, rfl⟩
  obtain ⟨D, eD⟩ : ∃ D, D = s2.heap.objs.size := ⟨_, rfl⟩
  have hp3 : s3.heap = s2.heap.push nd := by rw [e3]
  have gone : H2 D = none := I2.hok.fresh (Nat.le_of_eq eD.symm)
  obtain ⟨W, ⟨m0, w0⟩, turn⟩ := q D gone
  have I3 : Inv X pins σ (upd H2 D (DO X.prog X.w D [])) s3 := by
    rw [e3]
    refine I2.laid (t' := s2.toks) (fun b o e => Heap.get?_push_of_some _ e) (Nat.le_of_eq eD.symm) ?_
    rw [eD, end_]
    exact do_new (xs := []) (beq_eq_false_iff_ne.mpr (Ne.symm (Nat.ne_of_lt I2.big))) (Nat.zero_le _) .nil (Heap.DictOfH.new s2.heap)
  -- what the loop goes through lies elsewhere
  have low : ∀ b ∈ fp, b < D := fun b hb => by
    obtain ⟨o, e, _⟩ := T.obj _ _ st2 b hb
    rw [eD]
    exact Heap.lt_size e
  have f3 : ∀ b ∈ fp, FpOk X pins (upd H2 D (DO X.prog X.w D [])) b ∧ b < s3.heap.objs.size := fun b hb => by
    have lt := low b hb
    refine ⟨⟨(upd_ne (Nat.ne_of_lt lt)).trans (f2 b hb).1, (f2 b hb).2⟩, ?_⟩
    rw [hp3, Heap.size_push, ← eD]
    exact Nat.lt_succ_of_lt lt
  have st3 : tn 0 s3.heap := T.keep _ _ _ st2 fun b _ o e => by
    rw [hp3]
    exact Heap.get?_push_of_some _ e
  have I4 := block_start I3 ok hN f3
  have none3 : ∀ b ∈ fp, (upd H2 D (DO X.prog X.w D [])) b = none := fun b hb => (f3 b hb).1.1
  obtain ⟨C, eC⟩ : ∃ C, C = s3.heap.objs.size := ⟨_, rfl⟩
  obtain ⟨cl, ecl⟩ : ∃ cl, cl = cellsFrom (s3.heap.objs.size + 1) scope.names (cloFrom X.env.cells scope.names []) := ⟨_, rfl⟩
  obtain ⟨ev, eev⟩ : ∃ ev, ev = compEnvC scope cl C X.env := ⟨_, rfl⟩
  have atC : ev.locals = s3.heap.objs.size := by
    rw [eev, ← eC]
    rfl
  have pg := hg s3 (upd H2 D (DO X.prog X.w D [])) C cl fp
  have pt := ht s3 (upd H2 D (DO X.prog X.w D [])) C cl fp
  have pk := hk s3 (upd H2 D (DO X.prog X.w D [])) C cl fp
  have pv := hv s3 (upd H2 D (DO X.prog X.w D [])) C cl fp
  rw [← eev] at pg pt pk pv
  rw [← ecl, ← eC, ← eev] at I4
  have goal : codeAny (model X.prog X.w) X.A (.compStart (.DictComp kx vx [⟨tg, iter, ifs, 0⟩] scope pos) 0 (.ref it) (.ref D) ev) (compPost (model X.prog X.w) X.A X.xe none (EP X pins σ Q) (.ref D) C) { s3 with heap := pushCells (s3.heap.push { cls := .type "dict", data := .dict #[] }) scope.names } := ?_
  · rw [eev, ecl, eC, e3, eD, ← end_] at goal
    exact goal
  generalize hH3 : upd H2 D (DO X.prog X.w D []) = H3 at I3 I4 pg pt pk pv w0 none3 f3
  generalize hs4 : ({ s3 with heap := pushCells (s3.heap.push { cls := .type "dict", data := .dict #[] }) scope.names } : Shared) = s4 at I4 ⊢
  have st4 : tn 0 s4.heap := T.keep _ _ _ st3 fun b _ o e => by
    rw [← hs4]
    exact pushCells_keeps _ _ _ _ (Heap.get?_push_of_some _ e)
  have quiet : ∀ v s, (X.blk s3 H3 scope ev fp).xe v s → False := fun _ _ z => z
  have keeps : ∀ {σ' : L2.St} {H' : Hp} {s' : Shared}, Inv (X.blk s3 H3 scope ev fp) [] σ' H' s' → (∀ b ∈ fp, H' b = none) → ∀ b ∈ fp, FpOk (X.blk s3 H3 scope ev fp) [] H' b :=
    fun {σ' H' s'} J' nb b hb => ⟨nb b hb, (J'.ok.exf b hb).1, J'.ok.exfs b hb, .inl hb, fun x c e => (J'.ok.exf b hb).2 x c e, fun p hp => (by simp at hp : False).elim⟩
  have loop : codeAny (model X.prog X.w) X.A (.compLoop (.DictComp kx vx [⟨tg, iter, ifs, 0⟩] scope pos) 0 (.ref it) (.ref D) ev) (compPost (model X.prog X.w) X.A X.xe none (EP X pins σ Q) (.ref D) C) s4 := by
    refine compLoop_anyD (fun n t => ∃ i G, Inv (X.blk s3 H3 scope ev fp) [] (wipe σ (own.map (·.2))) G t ∧ tn i t.heap ∧ (∀ b ∈ fp, G b = none) ∧ W i n G) ?_ m0 ⟨0, H3, I4, st4, none3, w0⟩
    rintro n s5 ⟨i, G, I5, st5, n5, w5⟩
    rcases turn i n G w5 with ⟨stop, done⟩ | ⟨go, Nx, down, step⟩
    · refine thnF (T.done (X.blk s3 H3 scope ev fp) rfl rfl rfl hc i [] s5 _ G (fun _ _ => False) I5 (keeps I5 n5) st5 stop) fun r s6 ⟨er, I6⟩ => ?_
      subst er
      have I7 : Inv X pins σ G s6 := I3.call' (ch := fp) I6.os I6.base I6.hok I6.bare fun b hb =>
        let z := (f3 b hb).1.2
        ⟨z.2.2.1, z.1, z.2.2.2.1, z.2.2.2.2⟩
      have nC : G s3.heap.objs.size = none := atC ▸ (show G ev.locals = none from I6.free)
      obtain ⟨mm, ns, _⟩ := I6.loc
      have ns : s6.heap.Ns C mm := by
        rw [eC, ← atC]
        exact ns
      obtain ⟨z0, z1, _, z3, z4, z5⟩ := I3.fpOk (Nat.le_refl _) nC
      rw [← eC] at z0 z1 z3 z4 z5
      exact ⟨mm, ns, fun h2 sb => ⟨.ref D, G, I7.turned (t' := s6.toks) (fun b o hb e => (sb.2 b hb).trans e) z0 z1 z3 z4 z5, rfl, done⟩⟩
    · refine thnF (T.item (X.blk s3 H3 scope ev fp) rfl rfl rfl hc i [] s5 _ G (fun _ _ => False) I5 (keeps I5 n5) st5 go) fun r s6 ⟨u, er, h6⟩ => ?_
      subst er
      refine thnF h6 fun _ s7 ⟨x, H7, I7, r7, y7, st7, n7⟩ => ?_
      refine turnD (Y := X.blk s3 H3 scope ev fp) (Iv := fun n t => ∃ i G, Inv (X.blk s3 H3 scope ev fp) [] (wipe σ (own.map (·.2))) G t ∧ tn i t.heap ∧ (∀ b ∈ fp, G b = none) ∧ W i n G) quiet hu pg pt pk pv (I7.pinned (keeps I7 n7) (T.obj _ _ st7)) r7 (step x H7 y7) fun σ' s' G' ww Jv nx => ?_
      obtain ⟨j, lt, w'⟩ := down G' nx
      have pin : ∀ b ∈ fp, ∀ o, s7.heap.get? b = some o → s'.heap.get? b = some o ∧ G' b = none := fun b hb o e =>
        have z := Jv.pin (b, o) (List.mem_append_right _ (List.mem_append_right _ (mem_pinsAt hb e)))
        ⟨z.1, z.2.1⟩
      refine ⟨j, lt, i + 1, G', (Jv.unpinned (pins := [])).weak ?_ fun l v e => ?_, T.keep _ _ _ st7 fun b hb o e => (pin b hb o e).1, fun b hb => ?_, w'⟩
      · rw [← ww, wipe_length]
      · rw [← ww] at e
        exact (wipe_some e).1
      · obtain ⟨o, e, _⟩ := T.obj _ _ st7 b hb
        exact (pin b hb o e).2
  exact codeAny_compStart_dict loop (T.self X.A 0 _ _ _ st4 loop)
end
end ND
namespace ND
open PySem PySem.Spec PyProof.Rows L2
set_option autoImplicit false
/-- by a walk -/
theorem dcN_it {P : Program} {w0 : World} {K : PySem.W.Frag} {J : It} {n : Nat} {G : Hp → Prop} {Y : Nat → Hp → V → Hp → Prop} (w : Walk J n G Y) {g : TG} {tt : TT} {tk tv : TE} {vs : List Nat} {σ : L2.St} {H1 : Hp} {D : Addr} {Qd : Hp → Prop}
    (Pv : Nat → Hp → Prop) (h0 : Pv 0 (upd H1 D (DO P w0 D []))) (hG : ∀ i H, i ≤ n → Pv i H → G H)
    (hs : ∀ i x H H', i < n → Pv i H → Y i H x H' → TurnD P w0 K D g tt tk tv vs σ (Pv (i + 1)) x H') (hd : ∀ H, Pv n H → Qd H) :
    ∃ W : Nat → Nat → Hp → Prop, (∃ m, W 0 m (upd H1 D (DO P w0 D []))) ∧ ∀ i m H, W i m H →
      (J.stop i H ∧ Qd H) ∨ (J.go i H ∧ ∃ Nx : Hp → Prop, (∀ H', Nx H' → ∃ m', m' < m ∧ W (i + 1) m' H') ∧
        ∀ x H', J.yld i H x H' → TurnD P w0 K D g tt tk tv vs σ Nx x H') := by
  refine ⟨fun i m H => i ≤ n ∧ m = n - i ∧ Pv i H, ⟨n, Nat.zero_le _, rfl, h0⟩, ?_⟩
  rintro i m H ⟨hi, rfl, p⟩
  rcases Nat.lt_or_eq_of_le hi with lt | e
  · exact .inr ⟨w.goes i H lt (hG i H hi p), Pv (i + 1), fun H' p' => ⟨n - (i + 1), by omega, lt, rfl, p'⟩, fun x H' y => hs i x H H' lt p (w.yields i H x H' lt (hG i H hi p) y)⟩
  · subst e
    exact .inl ⟨w.stops H (hG i H hi p), hd H p⟩
end ND
/-! enumerate(tuple) -/
namespace EN
open PySem PySem.Spec PyProof.Rows L2
theorem meets_new1 {v : Value} {o : Obj} {H : Heap → Prop} (B : Begins v o H) :
    Meets (Builtin.«enumerate.__new__» ⟨[.type "enumerate", v], []⟩) (fun _ R s => H s.heap ∧
      R (.ok (.ret (.ref (s.heap.push o).objs.size))) { s with heap := (s.heap.push o).push { cls := .type "enumerate", data := .fields #[.none, .bool false, .ref s.heap.objs.size, rawInt 0, .none, .none] } }) :=
  .of_wp fun prog w A R s h => by
    obtain ⟨hp, g, d, tk, os⟩ := s
    obtain ⟨h1, h⟩ := h
    have hsub := sub_enumerate
    have q1 : ∀ {A' : Around} {E : Value → Shared → Prop} {Q : Value → Shared → Prop}, Q (.ref hp.objs.size) ⟨hp.push o, g, d, tk, os⟩ → wpAny (model prog w) A' (pyIter v) Q E ⟨hp, g, d, tk, os⟩ :=
      fun q => B.iter prog w _ _ ⟨hp, g, d, tk, os⟩ _ h1 q
    wp_walk using q1
    refine wpAny_stack_any fun st => wpAny_pure ?_
    split
    · rename_i c _ _ _ _ _
      cases (c == Value.type "enumerate")
      · wp_walk using q1
        exact ⟨_, rfl, h⟩
      · wp_walk using q1
        exact ⟨_, rfl, h⟩
    · wp_walk using q1
      exact ⟨_, rfl, h⟩
section
variable {prog : Program} {w : World} {A : Around} {E : Value → Shared → Prop} {s : Shared}
theorem begins1 {v : Value} {o : Obj} {H : Heap → Prop} {Q : Value → Shared → Prop} (B : Begins v o H) (h1 : H s.heap)
    (h : ∀ h', IsEnum h' (s.heap.objs.size + 1) s.heap.objs.size 0 .none → h'.get? s.heap.objs.size = some o → h'.objs.size = s.heap.objs.size + 2 →
      (∀ b o, s.heap.get? b = some o → h'.get? b = some o) → Q (.ref (s.heap.objs.size + 1)) { s with heap := h' }) :
    wpAny (model prog w) A (call (.type "enumerate") [v]) Q E s := by
  refine callType_new F.called_enumerate (by decide) (F.typeCall_enumerate_1 _) (F.newCall_enumerate_1 _) (fun obj => F.args_object_init_2 obj _) F.entry_enumerate_new
    (meets_new1 B) ⟨h1, ?_⟩
  have hz : (s.heap.push o).objs.size = s.heap.objs.size + 1 := Heap.size_push ..
  show _ ∧ _
  rw [hz]
  have he : IsEnum ((s.heap.push o).push { cls := .type "enumerate", data := .fields #[.none, .bool false, .ref s.heap.objs.size, rawInt 0, .none, .none] }) (s.heap.objs.size + 1) s.heap.objs.size 0 .none := by
    have := Heap.get?_push_size (s.heap.push o) (o := { cls := .type "enumerate", data := .fields #[.none, .bool false, .ref s.heap.objs.size, rawInt 0, .none, .none] }) rfl
    rw [hz] at this
    exact this
  exact ⟨⟨_, he, rfl⟩, h _ he (Heap.get?_push_of_some _ (Heap.get?_push_size _ B.free)) (by rw [Heap.size_push, hz]) fun b o x => Heap.get?_push_of_some _ (Heap.get?_push_of_some _ x)⟩
end
/-- the tuple at a, its items with their places in new pairs -/
def ItT (K : PySem.W.Frag) (a : Addr) : It :=
  ⟨fun i H => ∃ (xs : List V) (x : V), SqT K H a xs ∧ xs[i]? = some x, fun i H v H' => ∃ T x, v = .ref T ∧ H T = none ∧ H' = upd H T (.tup [.int (i : Nat), x]) ∧ ∀ xs, SqT K H a xs → xs[i]? = some x, fun i H => ∃ xs : List V, SqT K H a xs ∧ xs.length = i⟩
theorem ne_iter {h : Heap} {it a : Addr} {i : Nat} {its : Array Value} (h1 : h.IsTupleIter it a i) (h2 : h.IsTuple a its) : a ≠ it := fun e => by
  subst e
  obtain ⟨o, ho, hc, _⟩ := h1
  obtain ⟨o', ho', hc', _⟩ := h2
  rw [ho] at ho'
  cases ho'
  rw [hc] at hc'
  injection hc' with q
  exact absurd q (by decide)
theorem turn_T {P : Program} {w : World} {K : PySem.W.Frag} {elts : List Expr} {kk : Nat} {tpos : Pos} (a e it : Addr) (nea : e ≠ a) :
    Turn P w K (.Tuple elts kk tpos) (ItT K a) [e, it] e (fun i h => (∃ old, IsEnum h e it ((i : Nat) : Int) old) ∧ h.IsTupleIter it a i ∧ e ≠ it) where
  mem := by simp
  obj := fun i h st b hb => by
    obtain ⟨⟨old, he⟩, ⟨o, ho, hc, hd⟩, _⟩ := st
    have e' : b = e ∨ b = it := by simpa using hb
    rcases e' with z | z
    · rw [z]; exact ⟨_, he, fun v q => nomatch q⟩
    · rw [z]; exact ⟨o, ho, fun v q => by rw [hd] at q; cases q⟩
  keep := fun i h h' st k => let ⟨⟨old, he⟩, hi, hne⟩ := st; ⟨⟨old, k e (by simp) _ he⟩, hi.at fun o q => k it (by simp) o q, hne⟩
  item := by
    intro X hP hw hK hc i pins s σ H E I hf st hg
    subst hP hw hK
    obtain ⟨⟨old, he⟩, hit, hne⟩ := st
    obtain ⟨xs, x, hq, hx⟩ := hg
    obtain ⟨its, rv, p, hz⟩ := I.tuple hq
    obtain ⟨u, hu, ru⟩ := rv.get hx
    have hel : e < s.heap.objs.size := Heap.lt_size he
    have hil : it < s.heap.objs.size := by obtain ⟨_, q, _⟩ := hit; exact Heap.lt_size q
    have p' : s.heap.IsTuple a its.toArray := p
    have lt : i < its.toArray.size := by
      rw [List.size_toArray]
      exact (List.getElem?_eq_some_iff.mp hu).1
    refine wpAny_pyNext_enum_itemD (Draws.tuple (A := X.A.in1) (I.ok.hd hc) it a (ne_iter hit p') its.toArray) he ⟨hit, p'⟩ lt hne (by simp [hne, nea]) fun x' h' tk px ho st' hT hsz hk => ?_
    have ex : x' = u := by
      rw [List.getElem?_toArray, hu] at px
      exact (Option.some.inj px).symm
    subst ex
    refine ⟨_, rfl, wpAny_letOwnedTupleGo_enum (s := { s with heap := h', toks := tk + 1 }) ho fun h'' he' sb => ?_⟩
    have hT2 : h''.get? s.heap.objs.size = some { cls := .type "tuple", data := .seq #[.int i tk, x'] } := (sb.2 _ (Nat.ne_of_gt hel)).trans hT
    have new : ObjOk X.prog X.w (upd H s.heap.objs.size (.tup [.int (i : Nat), x])) h'' s.heap.objs.size (.tup [.int (i : Nat), x]) :=
      ⟨by show 2 ≤ sizeLine; decide, [.int i tk, x'], .cons ⟨_, rfl⟩ (.cons ru .nil), ⟨_, hT2, rfl, _, rfl⟩⟩
    have I1 : Inv X pins σ (upd H s.heap.objs.size (.tup [.int (i : Nat), x])) { s with heap := h'', toks := tk + 1 } :=
      I.turnedNew (ch := [e, it]) (fun b ob hb q => (sb.2 b (fun z => hb (by simp [z]))).trans (hk b ob (fun z => hb (by simp [z])) (fun z => hb (by simp [z])) q)) hf (Nat.le_refl _) new
    refine ⟨.ref s.heap.objs.size, _, I1, rfl, ⟨_, x, rfl, I.hok.fresh (Nat.le_refl _), rfl, fun ys hy => by rw [I.tuple_inj hy hq]; exact hx⟩, ⟨⟨x', ?_⟩, st'.1.at fun o q => (sb.2 it (Ne.symm hne)).trans q, hne⟩, fun b hb => ?_⟩
    · have e1 : ((i + 1 : Nat) : Int) = (i : Int) + 1 := by omega
      rw [e1]
      exact he'
    · have hb' : b < s.heap.objs.size := by
        have e' : b = e ∨ b = it := by simpa using hb
        rcases e' with z | z
        · rw [z]; exact hel
        · rw [z]; exact hil
      rw [upd_ne (Nat.ne_of_lt hb')]
      exact (hf b hb).1
  done := by
    intro X hP hw hK hc i pins s σ H E I hf st hg
    subst hP hw hK
    obtain ⟨⟨old, he⟩, hit, hne⟩ := st
    obtain ⟨xs, hq, hx⟩ := hg
    obtain ⟨its, rv, p, hz⟩ := I.tuple hq
    have p' : s.heap.IsTuple a its.toArray := p
    obtain ⟨f0, f1, f2, f3, f4, f5⟩ := hf it (by simp)
    have hl := rv.length
    have ei : i = its.toArray.size := by rw [List.size_toArray]; omega
    exact wpAny_pyNext_enum_endD (Draws.tuple (A := X.A.in1) (I.ok.hd hc) it a (ne_iter hit p') its.toArray) he (by rw [← ei]; exact ⟨hit, p'⟩) fun h' eb => ⟨rfl, I.turned (t' := s.toks) (fun b o hb q => eb b o hb q) f0 f1 f3 f4 f5⟩
  self := fun A i s Q E st h => let ⟨⟨_, he⟩, _⟩ := st; wpAny_pyIter_enum he h
def iEnT (K : PySem.W.Frag) (ta : TA) : TI := fun σ H R => ta σ H fun vs H1 => ∃ a xs, vs = [.ref a] ∧ SqT K H1 a xs ∧ R (ItT K a) H1
theorem pi_enT {X : Cx} {e : Expr} {ta : TA} {p pos tpos : Pos} {elts : List Expr} {kk : Nat} (hg : Gl X "enumerate") (hm : X.mg "enumerate" = none) (ha : PA X [e] ta) (hs : starEach [e] X.env = [(false, eval e X.env)] := by rfl) :
    PI X (.Tuple elts kk tpos) (.Call (.Name "enumerate" p) [e] [] pos) (iEnT X.K ta) := by
  refine ⟨fun pins s σ H R I h => ?_⟩
  refine Call_ (ld_blt I hg hm boot_enumerate (PyProof.Rows.callWith_type1 (thn (ha.run pos pins s σ H _ I h) fun us s1 ⟨vs, H1, I1, r1, q1⟩ => ?_) hs rfl))
  obtain ⟨a, xs, ex, hq, q⟩ := q1
  subst ex
  cases r1 with
  | cons r rr =>
    cases rr
    cases r
    obtain ⟨its, rv, p', hz⟩ := I1.tuple hq
    have p2 : s1.heap.IsTuple a its.toArray := p'
    have al : a < s1.heap.objs.size := by
      obtain ⟨_, h0, _⟩ := p2
      exact Heap.lt_size h0
    refine begins1 (begins_tuple a its.toArray) p2 fun h' he hit hsz hk => wpAny_pyIter_enum he ?_
    have I2 : Inv X pins σ H1 { s1 with heap := h' } := I1.kept (t' := s1.toks) hk
    refine ⟨s1.heap.objs.size + 1, [s1.heap.objs.size + 1, s1.heap.objs.size], _, _, H1, rfl, I2, turn_T a (s1.heap.objs.size + 1) s1.heap.objs.size (fun z => absurd (z ▸ al) (Nat.not_lt.mpr (Nat.le_succ _))), ⟨⟨.none, he⟩, ⟨_, hit, rfl, rfl⟩, Nat.succ_ne_self _⟩, fun b hb => ?_, q⟩
    have e' : b = s1.heap.objs.size + 1 ∨ b = s1.heap.objs.size := by simpa using hb
    have hle : s1.heap.objs.size ≤ b := by
      rcases e' with z | z
      · rw [z]; exact Nat.le_add_right _ _
      · rw [z]; exact Nat.le_refl _
    exact I1.fpOk hle (I1.hok.fresh hle)
theorem walk_T {K : PySem.W.Frag} {a : Addr} {xs : List V} : Walk (ItT K a) xs.length (fun H => SqT K H a xs) (YPair (fun i => some (.int (i : Nat))) (fun i => xs[i]?)) := by
  refine ⟨fun i _ hi q => ⟨xs, xs[i], q, by simp [hi]⟩, fun _ q => ⟨xs, q, rfl⟩, fun i H v H' _ q y => ?_⟩
  obtain ⟨T, x, h1, h2, h3, h4⟩ := y
  exact ⟨T, .int (i : Nat), x, h1, h2, h3, rfl, h4 xs q⟩
end EN
/-! enumerate(text) -/
namespace ENS
open PySem PySem.Spec PyProof.Rows L2
/-- the signs of a text with their places in new pairs -/
def ItS (x : Str) : It :=
  ⟨fun i H => i < x.cps.size, fun i H v H' => ∃ T c, v = .ref T ∧ H T = none ∧ H' = upd H T (.tup [.int (i : Nat), .str ⟨#[c]⟩]) ∧ x.cps[i]? = some c, fun i H => i = x.cps.size⟩
theorem turn_S {P : Program} {w : World} {K : PySem.W.Frag} {elts : List Expr} {kk : Nat} {tpos : Pos} (x : Str) (t : Tok) (e it : Addr) (ne : e ≠ it) :
    Turn P w K (.Tuple elts kk tpos) (ItS x) [e, it] e (fun i h => (∃ old, IsEnum h e it ((i : Nat) : Int) old) ∧ h.IsStrIter it (strIterType x) x t i) where
  mem := by simp
  obj := fun i h st b hb => by
    obtain ⟨⟨old, he⟩, ⟨o, ho, hc, hd⟩⟩ := st
    have e' : b = e ∨ b = it := by simpa using hb
    rcases e' with z | z
    · rw [z]; exact ⟨_, he, fun v q => nomatch q⟩
    · rw [z]; exact ⟨o, ho, fun v q => by rw [hd] at q; cases q⟩
  keep := fun i h h' st k => by
    obtain ⟨⟨old, he⟩, ⟨o, ho, r⟩⟩ := st
    exact ⟨⟨old, k e (by simp) _ he⟩, ⟨o, k it (by simp) _ ho, r⟩⟩
  item := by
    intro X hP hw hK hc i pins s σ H E I hf st hg
    subst hP hw hK
    obtain ⟨⟨old, he⟩, hit⟩ := st
    have hel : e < s.heap.objs.size := Heap.lt_size he
    have hil : it < s.heap.objs.size := by obtain ⟨_, q, _⟩ := hit; exact Heap.lt_size q
    refine wpAny_pyNext_enum_itemD (Draws.text (A := X.A.in1) (I.ok.hd hc) it x t) he hit hg ne (by simp [ne]) fun x' h' tk px ho st' hT hsz hk => ?_
    obtain ⟨c, u, hc1, rfl⟩ := px
    refine ⟨_, rfl, wpAny_letOwnedTupleGo_enum (s := { s with heap := h', toks := tk + 1 }) ho fun h'' he' sb => ?_⟩
    have hT2 : h''.get? s.heap.objs.size = some { cls := .type "tuple", data := .seq #[.int i tk, .str ⟨#[c]⟩ u] } := (sb.2 _ (Nat.ne_of_gt hel)).trans hT
    have new : ObjOk X.prog X.w (upd H s.heap.objs.size (.tup [.int (i : Nat), .str ⟨#[c]⟩])) h'' s.heap.objs.size (.tup [.int (i : Nat), .str ⟨#[c]⟩]) :=
      ⟨by show 2 ≤ sizeLine; decide, [.int i tk, .str ⟨#[c]⟩ u], .cons ⟨_, rfl⟩ (.cons ⟨_, rfl⟩ .nil), ⟨_, hT2, rfl, _, rfl⟩⟩
    have I1 : Inv X pins σ (upd H s.heap.objs.size (.tup [.int (i : Nat), .str ⟨#[c]⟩])) { s with heap := h'', toks := tk + 1 } :=
      I.turnedNew (ch := [e, it]) (fun b ob hb q => (sb.2 b (fun z => hb (by simp [z]))).trans (hk b ob (fun z => hb (by simp [z])) (fun z => hb (by simp [z])) q)) hf (Nat.le_refl _) new
    refine ⟨.ref s.heap.objs.size, _, I1, rfl, ⟨_, c, rfl, I.hok.fresh (Nat.le_refl _), rfl, hc1⟩, ⟨⟨.str ⟨#[c]⟩ u, ?_⟩, ?_⟩, fun b hb => ?_⟩
    · have e1 : ((i + 1 : Nat) : Int) = (i : Int) + 1 := by omega
      rw [e1]
      exact he'
    · obtain ⟨o, e1, r⟩ := st'
      exact ⟨o, (sb.2 it (Ne.symm ne)).trans e1, r⟩
    · have hb' : b < s.heap.objs.size := by
        have e' : b = e ∨ b = it := by simpa using hb
        rcases e' with z | z
        · rw [z]; exact hel
        · rw [z]; exact hil
      rw [upd_ne (Nat.ne_of_lt hb')]
      exact (hf b hb).1
  done := by
    intro X hP hw hK hc i pins s σ H E I hf st hg
    subst hP hw hK
    obtain ⟨⟨old, he⟩, hit⟩ := st
    have ei : i = x.cps.size := hg
    obtain ⟨f0, f1, f2, f3, f4, f5⟩ := hf it (by simp)
    exact wpAny_pyNext_enum_endD (Draws.text (A := X.A.in1) (I.ok.hd hc) it x t) he (by rw [← ei]; exact hit) fun h' eb => ⟨rfl, I.turned (t' := s.toks) (fun b o hb q => eb b o hb q) f0 f1 f3 f4 f5⟩
  self := fun A i s Q E st h => let ⟨⟨_, he⟩, _⟩ := st; wpAny_pyIter_enum he h
def iEnS (ta : TA) : TI := fun σ H R => ta σ H fun vs H1 => ∃ x, vs = [.str x] ∧ R (ItS x) H1
theorem pi_enS {X : Cx} {e : Expr} {ta : TA} {p pos tpos : Pos} {elts : List Expr} {kk : Nat} (hg : Gl X "enumerate") (hm : X.mg "enumerate" = none) (ha : PA X [e] ta) (hs : starEach [e] X.env = [(false, eval e X.env)] := by rfl) :
    PI X (.Tuple elts kk tpos) (.Call (.Name "enumerate" p) [e] [] pos) (iEnS ta) := by
  refine ⟨fun pins s σ H R I h => ?_⟩
  refine Call_ (ld_blt I hg hm boot_enumerate (PyProof.Rows.callWith_type1 (thn (ha.run pos pins s σ H _ I h) fun us s1 ⟨vs, H1, I1, r1, q1⟩ => ?_) hs rfl))
  obtain ⟨x, ex, q⟩ := q1
  subst ex
  cases r1 with
  | cons r rr =>
    cases rr
    obtain ⟨t, rfl⟩ := r
    refine EN.begins1 (begins_text x t) trivial fun h' he hit hsz hk => wpAny_pyIter_enum he ?_
    have I2 : Inv X pins σ H1 { s1 with heap := h' } := I1.kept (t' := s1.toks) hk
    refine ⟨s1.heap.objs.size + 1, [s1.heap.objs.size + 1, s1.heap.objs.size], _, _, H1, rfl, I2, turn_S x t (s1.heap.objs.size + 1) s1.heap.objs.size (Nat.succ_ne_self _), ⟨⟨.none, he⟩, ⟨_, hit, rfl, rfl⟩⟩, fun b hb => ?_, q⟩
    have e' : b = s1.heap.objs.size + 1 ∨ b = s1.heap.objs.size := by simpa using hb
    have hle : s1.heap.objs.size ≤ b := by
      rcases e' with z | z
      · rw [z]; exact Nat.le_add_right _ _
      · rw [z]; exact Nat.le_refl _
    exact I1.fpOk hle (I1.hok.fresh hle)
theorem walk_S {x : Str} : Walk (ItS x) x.cps.size (fun _ => True) (fun i H v H' => ∃ T c, v = .ref T ∧ H T = none ∧ H' = upd H T (.tup [.int (i : Nat), .str ⟨#[c]⟩]) ∧ x.cps[i]? = some c) :=
  ⟨fun i _ hi _ => hi, fun _ _ => rfl, fun i H v H' _ _ y => y⟩
end ENS
/-! own classes: ==, != by an own __eq__; str() by an own __str__ -/
namespace OQ
open PySem PySem.Spec PyProof.Rows L2
set_option autoImplicit false
section
open PySem.W PySem.Calls
variable {prog : Program} {w : World} {A : Around} {E : Value → Shared → Prop} {s : Shared} {K : Frag} {x C f : Addr} {ox : Obj} {od : Option Obj} {b tb : Value}
theorem slot_ne : Slot "object" "__ne__" "object.__ne__" :=
  .of (owner := "object") (n := "__ne__") (by rw [typeLookup_type, builtinLookup_eq_fast]; kernel_rfl) (by decide +kernel) (by decide +kernel) (by decide +kernel)
    (by first | exact .inl (by decide +kernel) | exact .inr (by decide +kernel)) (by rw [isSubtype_type]; kernel_rfl)
theorem ifBound_B {M : Model} {name : Str} {id : String} {args : List Value} {Q : Option Value → Shared → Prop} (X : K.In s.heap) (I : InstAt s.heap x ox C od) (hs : findIn K (.ref C) name = some (some (.builtin id)))
    (hb : ∀ self, bindSpecial (.builtin id) self = pure (.builtin id, [self])) (h : wpAny M A (call (.builtin id) (.ref x :: args)) (fun v => Q (some v)) E s) : wpAny M A (callSpecialIfBound? (.ref x) name args) Q E s := by
  simp only [callSpecialIfBound?, bindSpecialIfBound?]
  refine wpAny_holding (wpAny_bind (wpAny_bind (wpAny_bind (I.type.here ((looks_findIn X hs).here ?_)))))
  refine wpAny_bind (wpAny_askSetting (wpAny_ite ?_))
  have fin : wpAny M A (call (.builtin id) ([.ref x] ++ args) >>= fun v => pure (some v)) Q E s := wpAny_bind (wpAny_mono h (fun v s' h' => wpAny_pure h') fun _ _ h' => h')
  split
  · exact wpAny_bind ((Looks.of_pure (hb _)).here (wpAny_pure (by exact fin)))
  · exact wpAny_tryCatch (wpAny_bind ((Looks.of_pure (hb _)).here (wpAny_pure (by exact fin))))
theorem ne_entry (hu : A.units < cLine) (X : K.In s.heap) (I : InstAt s.heap x ox C od) (hs : findIn K (.ref C) "__eq__" = some (some (.ref f))) (hf : isFn K (.ref f) = true) {Q : Fin → Shared → Prop}
    (hcall : wpAny (model prog w) A (call (.ref f) [.ref x, b]) (fun v s' => ∃ r, v = .bool r ∧ Q (.done (.ret (.bool (!r)))) s') E s) :
    wpAny (model prog w) A (Builtin.«object.__ne__» ⟨[.ref x, b], []⟩) Q E s := by
  unfold Builtin.«object.__ne__»
  refine wpAny_bind (wpAny_of_eq (a := ((Value.ref x : Value), [b])) (by first | rfl | (simp only [Builtin.slotArgs]; rfl)) ?_)
  refine wpAny_bind (m := cRoomFor _ _) (wpAny_cRoomFor hu ?_)
  refine wpAny_bind (m := callSpecialIfBound? (.ref x) (Str.ofString "__eq__") [b]) (ifBound_K X I hs hf (wpAny_mono hcall (fun v s' hv => ?_) fun _ _ e => e))
  obtain ⟨r, rfl, q⟩ := hv
  exact wpAny_bind (m := truthy (.bool r)) (wpAny_truthy_bool (wpAny_pure q))
theorem rc_ne {Q : Value → Shared → Prop} (hu : A.units + 1 < cLine) (X : K.In s.heap) (I : InstAt s.heap x ox C od) (hb : Looks (model prog w) s.heap (typeOf b) tb) (hn : notFirst K C tb = true)
    (hne : findIn K (.ref C) "__ne__" = some (some (.builtin "object.__ne__"))) (hm : mroIn K C (.type "object") = some true) (hs : findIn K (.ref C) "__eq__" = some (some (.ref f))) (hf : isFn K (.ref f) = true)
    (h : wpAny (model prog w) A.in1 (call (.ref f) [.ref x, b]) (fun v s' => ∃ r, v = .bool r ∧ Q (.bool (!r)) s') E s) : wpAny (model prog w) A (richCompare .NotEq (.ref x) b) Q E s := by
  have one : wpAny (model prog w) A (tryCompare (.ref x) "__ne__" b) (fun r s' => ∃ v, r = some v ∧ Q v s') E s := by
    unfold tryCompare
    have sub : Looks (model prog w) s.heap (isInstance (.ref x) (.type "object")) true := I.type.andThen (looks_mroIn X hm)
    refine wpAny_bind (ifBound_B X I hne slot_ne.bind (wpAny_call (codeAny_call_builtin slot_ne.plain F.cmpEntry_ne (check_slot F.cmpKind_ne F.cmpSplit_ne sub (F.cmpArgs_ne _ _) ?_))))
    refine ne_entry (by show A.units + 1 < cLine; exact hu) X I hs hf (wpAny_mono h (fun v s' hv => ?_) fun _ _ e => e)
    obtain ⟨r, rfl, q⟩ := hv
    exact ⟨r, rfl, wpAny_pure ⟨_, rfl, q⟩⟩
  unfold richCompare
  simp only [oneThing_ref]
  refine wpAny_holding (wpAny_bind (wpAny_cRoomFor (Nat.lt_of_succ_lt hu) ?_))
  refine wpAny_bind (I.type.here (wpAny_bind (hb.here ?_)))
  split
  · rename_i q
    have e : subIn K tb (.ref C) = some false := by
      rcases Bool.or_eq_true_iff.mp hn with e | e
      · rw [beq_iff_eq.mp e] at q; simp at q
      · exact beq_iff_eq.mp e
    refine wpAny_bind ((looks_subIn X e).here ?_)
    simp only [Bool.false_eq_true, if_false]
    refine wpAny_bind (wpAny_mono one (fun r s' z => ?_) fun _ _ e => e)
    obtain ⟨v, rfl, hq⟩ := z
    exact wpAny_pure hq
  · refine wpAny_bind (wpAny_pure ?_)
    simp only [Bool.false_eq_true, if_false]
    refine wpAny_bind (wpAny_mono one (fun r s' z => ?_) fun _ _ e => e)
    obtain ⟨v, rfl, hq⟩ := z
    exact wpAny_pure hq
end
/-! ### rules -/
section
variable {X : Cx} {CX : CXT} {C f : Addr} {fd : FuncData} {ps : List Str} {sp : Sp} {E : XK} {k : Nat}
theorem env_in {pins : List (Addr × Obj)} {σ : L2.St} {H : Hp} {s : Shared} {A : Around} (I : Inv X pins σ H s) (h : A.frames = X.A.frames) : Env0 X.prog X.w X.K X.mg X.base A X.stack s H := by
  have e := I.env0
  exact ⟨by rw [h]; exact e.frames, e.mod, e.bs, e.bsz, e.funs, e.frf, e.hok, e.bare⟩
/-- x == y by the class's own __eq__ -/
def rOEq (K : PySem.W.Frag) (C : Addr) (sp : Sp) (E : XK) : R2 := fun x y H Q => ∃ (a dx : Addr) (fs : List (Str × V)) (tb : Value), x = .ref a ∧ H a = some (.ins C dx fs) ∧ TyX K H y tb ∧ PySem.W.notFirst K C tb = true ∧ sp [.ref a, y] H (fun v H' => ∃ b, v = .bl b ∧ Q (.bl b) H') E
def rONe (K : PySem.W.Frag) (C : Addr) (sp : Sp) (E : XK) : R2 := fun x y H Q => ∃ (a dx : Addr) (fs : List (Str × V)) (tb : Value), x = .ref a ∧ H a = some (.ins C dx fs) ∧ TyX K H y tb ∧ PySem.W.notFirst K C tb = true ∧ sp [.ref a, y] H (fun v H' => ∃ b, v = .bl b ∧ Q (.bl (!b)) H') E
theorem run_two {pins : List (Addr × Obj)} {σ : L2.St} {H : Hp} {s : Shared} {A : Around} {Q : VK} {us : List Value} {vs : List V} (F : FnOk X.prog X.w X.K X.mg X.base CX k f fd ps sp) (hr : Room k A) (hA : A.frames = X.A.frames) (hb : Binds X.K fd ps []) (hx : Passes CX X E)
    (I : Inv X pins σ H s) (r : Vals vs us) (h : sp vs H Q E) : wpAny (model X.prog X.w) A (call (.ref f) us) (EP X pins σ Q) X.xe s := by
  have hl : us.length = ps.length := by rw [← r.length]; exact F.len _ _ _ _ h
  have b := hb s us I.kIn (by rw [List.append_nil]; exact hl)
  rw [List.append_nil] at b
  refine wpAny_call (codeAny_mono (F.run A X.stack s H ⟨us, []⟩ us vs Q E hr (env_in I hA) b r h) fun r s' hq => ?_)
  cases r with
  | error e => exact hx pins σ H s e s' I hq
  | ok fl =>
    cases fl with
    | ret u => exact I.after hq
    | next => exact False.elim hq
    | brk => exact False.elim hq
    | cont => exact False.elim hq
theorem op_oeq (F : FnOk X.prog X.w X.K X.mg X.base CX k f fd ps sp) (hs : Meth X.K C "__eq__" f) (hb : Binds X.K fd ps []) (hx : Passes CX X E) (hr : Room k X.A) : OpR X (compareOp .Eq) (rOEq X.K C sp E) := by
  intro pins s σ H x y v u Q I rx ry hq
  obtain ⟨a, dx, fs, tb, rfl, ha, ty, hn, h⟩ := hq
  cases rx
  obtain ⟨mA, J, _⟩ := ins_get I.hok ha
  obtain ⟨od, J, _⟩ := J.look
  obtain ⟨P0, kx, hp, _⟩ := kit_of I ry ty
  obtain ⟨m, hF⟩ := I.fr
  show wpAny (model X.prog X.w) X.A (richCompare .Eq (.ref a) u) (EP X pins σ Q) X.xe s
  refine PySem.W.cmp_K (op := .Eq) hr.units0 hF I.ok.mod.kin J (kx.ty _ _ I.kIn hp) hn hs.at_ hs.fn ?_
  refine thn (run_two F hr rfl hb hx I (vs := [.ref a, y]) (us := [.ref a, u]) (.cons rfl (.cons ry .nil)) h) fun v s1 hv => ?_
  obtain ⟨z, H1, I1, rz, b, rfl, q⟩ := hv
  cases rz
  exact ⟨.bl b, H1, I1, rfl, q⟩
theorem op_one (F : FnOk X.prog X.w X.K X.mg X.base CX k f fd ps sp) (hs : Meth X.K C "__eq__" f) (hne : PySem.W.findIn X.K (.ref C) "__ne__" = some (some (.builtin "object.__ne__"))) (hm : PySem.W.mroIn X.K C (.type "object") = some true) (hb : Binds X.K fd ps []) (hx : Passes CX X E) (hr : Room (k + 1) X.A) : OpR X (compareOp .NotEq) (rONe X.K C sp E) := by
  intro pins s σ H x y v u Q I rx ry hq
  obtain ⟨a, dx, fs, tb, rfl, ha, ty, hn, h⟩ := hq
  cases rx
  obtain ⟨mA, J, _⟩ := ins_get I.hok ha
  obtain ⟨od, J, _⟩ := J.look
  obtain ⟨P0, kx, hp, _⟩ := kit_of I ry ty
  show wpAny (model X.prog X.w) X.A (richCompare .NotEq (.ref a) u) (EP X pins σ Q) X.xe s
  refine rc_ne (by have := hr.un; omega) I.kIn J (kx.ty _ _ I.kIn hp) hn hne hm hs.at_ hs.fn ?_
  refine thn (run_two F hr.in1 rfl hb hx I (vs := [.ref a, y]) (us := [.ref a, u]) (.cons rfl (.cons ry .nil)) h) fun v s1 hv => ?_
  obtain ⟨z, H1, I1, rz, b, rfl, q⟩ := hv
  cases rz
  exact ⟨b, rfl, .bl (!b), H1, I1, rfl, q⟩
/-- str(x) by the class's own __str__ -/
def rStrO (C : Addr) (sp : Sp) (E : XK) : List V → Hp → VK → Prop := fun xs H Q => ∃ (a dx : Addr) (fs : List (Str × V)), xs = [.ref a] ∧ H a = some (.ins C dx fs) ∧ sp [.ref a] H (fun v H' => ∃ y : Str, v = .str y ∧ Q (.str y) H') E
theorem call_strO (F : FnOk X.prog X.w X.K X.mg X.base CX k f fd ps sp) (hs : Meth X.K C "__str__" f) (hb : Binds X.K fd ps []) (hx : Passes CX X E) (hr : Room (k + 2) X.A) : CallR X (.type "str") (rStrO C sp E) := by
  intro pins s σ H xs us Q I r h
  obtain ⟨a, dx, fs, rfl, ha, h⟩ := h
  cases r with
  | cons ra rr =>
    cases rr
    cases ra
    obtain ⟨mA, J, _⟩ := ins_get I.hok ha
    obtain ⟨od, J, _⟩ := J.look
    refine PySem.W.kso_call (hr.in1.in1).units0 I.kIn J hs.at_ hs.fn ?_
    refine thn (run_two F hr.in1.in1 rfl hb hx I (vs := [.ref a]) (us := [.ref a]) (.cons rfl .nil) h) fun v s1 hv => ?_
    obtain ⟨z, H1, I1, rz, y, rfl, q⟩ := hv
    obtain ⟨t, rfl⟩ := rz
    exact ⟨.str y, H1, I1, ⟨t, rfl⟩, q⟩
end
end OQ
/-! an own error whose __init__ begins with super().__init__(..) -/
namespace EX
open PySem PySem.Spec PyProof.Rows L2 NdefX
set_option autoImplicit false
/-- what the written part says of the class, its __init__ and the cell of its class -/
structure SupC (P : Program) (K : PySem.W.Frag) (C fI cc : Addr) (F : NF) : Prop where
  oex : OexC K C
  cl : F.cl = [(("__class__" : Str), cc)]
  cd : PySem.W.codeIn K (.ref F.c) F.qual = true
  code : ∃ (ccl : Value) (cdd : Option Addr) (vs : Array Value) (ccs : Array (Option Value)) (file : Str) (tf : Tok), K.lookup F.c = some (⟨ccl, cdd, .fields vs, ccs⟩ : Obj) ∧ vs[2]? = some (Value.str file tf) ∧ ((P.main.file : Str) == file) = true
  cell : ∃ (cl : Value) (cld : Option Addr) (csl : Array (Option Value)), K.lookup cc = some (⟨cl, cld, .cell (some (.ref C)), csl⟩ : Obj)
  top : (P.main.scope.names.lookup ("super" : Str)).isSome = false
  opq : PySem.W.nsIn K cStatics "thirdparty.any" = some none
  ini : PySem.W.ks_superIn K C C "__init__" = some (some (.builtin "ValueError.__init__"))
  ve : PySem.W.subIn K (.ref C) (.type "ValueError") = some true
  own : PySem.W.mroIn K C (.ref C) = some true
section
variable {X : Cx} {pins : List (Addr × Obj)} {σ : L2.St} {H : Hp} {s : Shared}
/-- the bound __init__ is called -/
theorem call_mw {A : Around} {E : Value → Shared → Prop} {a C u : Addr} {us : List Value} {Q : Value → Shared → Prop} (T : OexC X.K C) (I : Inv X pins σ H s) (e : H a = some (exo a C none)) (hu : s.heap.get? u = some (PySem.W.kxs_mw "ValueError.__init__" a)) (hl : us.length ≤ sizeLine) (h : ∀ s', Inv X pins σ H s' → Q .none s') :
    wpAny (model X.prog X.w) A (call (.ref u) us) Q E s := by
  obtain ⟨nm, q, N, bs, bm, sn, sub, ab, col, dd, k0, k1, k2, k3, k5, hC, hbm⟩ := T.cls
  have hC' := I.kIn _ _ hC
  obtain ⟨t1, ho⟩ := exo_at I.hok e
  obtain ⟨hp, g, d, t, os⟩ := s
  refine wpAny_call (codeAny_of_tree ?_)
  show wpAny _ A.in1 (callAny (.ref u) ⟨us, []⟩) _ _ _
  simp only [callAny]
  refine wpAny_bind (wpAny_load hu ?_)
  simp only [PySem.W.kxs_mw, show (Value.type "method-wrapper" == Value.type "method" || Value.type "method-wrapper" == Value.type "builtin_function_or_method" || Value.type "method-wrapper" == Value.type "method-wrapper") = true by decide, if_true]
  refine PySem.W.KFB.if_so (by decide) ?_
  refine wpAny_bind (PySem.W.check_bound_init F.excBase_ValueError.toExcCallFacts hC' ho rfl ?_)
  refine wpAny_bind (wpAny_pure (wpAny_pure ?_))
  refine ⟨plainId_quiet F.excBase_ValueError.init.plain _, codeAny_builtin F.excBase_ValueError.initEntry ?_⟩
  refine PySem.W.exc_init_tree (cls := .ref C) (t0 := t1) (dv := none) (c2 := .none) (c3 := .none) (b4 := .bool false) ho hl fun h' k hx _ => ?_
  have J := I.write (t' := t) (x := a) (e := a) (o := exo a C none) (by rw [e]; exact True.intro) (.inl rfl) k ⟨_, hx⟩ (exo_ok hx)
  have eu : upd H a (exo a C none) = H := by
    funext b
    by_cases hb : b = a
    · rw [hb, upd_same, e]
    · rw [upd_ne hb]
  rw [eu] at J
  exact h _ J
/-- THE RULE: an __init__ of an own error, its first statement super().__init__(msg) -/
theorem sup_ok {CX : CXT} {P : Program} {w : World} {K : PySem.W.Frag} {mg : Str → Option Value} {base : Heap} {k : Nat} {C fI cc : Addr} {F : NF} {N : List Str} {fl : Str} {msg : Expr} {rest : List Stmt} {p0 p1 p2 p3 p4 : Pos} {oc doc pm ctv : Value} {od : Option Addr} {osl : Array (Option Value)} {ar : Arg} {sp : Sp} {pl : Addr → Sem Bool}
    (T : SupC P K C fI cc F) (lk : K.lookup fI = some ⟨oc, od, .func (F.fd doc pm ctv), osl⟩) (hm : mg "super" = none) (S : NScope N ["self", fl] ["__class__"] F.scope)
    (hbody : F.body = .Expr (.Call (.Attribute (.Call (.Name "super" p0) [] [] p1) "__init__" p2) [msg] [] p3) p4 :: rest)
    (hpar : (F.params.posonlyargs ++ F.params.args).head? = some ar) (har : ar.arg = "self") (hks : F.scope.names.lookup ("super" : Str) = some .globalImplicit)
    (len : ∀ vs H Q E, sp vs H Q E → vs.length = 2)
    (h : ∀ (A : Around) (outer : List Env) (s : Shared) (H : Hp) (vs : List V) (Q : VK) (E : XK), Room k (A.deeper (envF F fI s.heap.objs.size)) → sp vs H Q E →
      ∃ (a : Addr) (y : V) (tm : TE) (t2 : TS), vs = [.ref a, y] ∧ H a = some (exo a C none) ∧ PE (ncx CX P w K mg base N F fI A outer s H E) msg tm ∧ PSs (ncx CX P w K mg base N F fI A outer s H E) rest t2 ∧
        tm (startF N vs [none]) H fun v H1 => [v].length = 1 ∧ H1 a = some (exo a C none) ∧ t2 { nx := fun _ H' => Q .non H', rt := Q } (startF N vs [none]) H1)
    (he : ∀ L : Addr, eval (.Call (.Attribute (.Call (.Name "super" p0) [] [] p1) "__init__" p2) [msg] [] p3) (envF F fI L) = (do
      let ov ← attributeBase (.Call (.Name "super" p0) [] [] p1) "__init__" (envF F fI L) (eval (.Call (.Name "super" p0) [] [] p1) (envF F fI L))
      standAt p2.atName
      let (f, first) ← holding [ov] (getMethod ov "__init__" (pl L))
      callWith p3 f first (backTo p3 (starEach [msg] (envF F fI L))) []))
    (hst : ∀ L : Addr, starEach [msg] (envF F fI L) = (false, eval msg (envF F fI L)) :: starEach [] (envF F fI L))
    (hsw : ∀ L : Addr, swapsWith (.Call (.Attribute (.Call (.Name "super" p0) [] [] p1) "__init__" p2) [msg] [] p3) none p4.line (envF F fI L) = pure false) :
    FnOk P w K mg base CX (k + 1) fI (F.fd doc pm ctv) ["self", fl] sp := by
  refine ⟨len, fun A outer s H args us vs Q E hr e0 hb r hsp => ?_⟩
  have hl := len _ _ _ _ hsp
  have KX : K.In s.heap := e0.mod.kin.keeps fun b o e => (e0.bs b o e).1
  have lim : s.heap.NoLimit := e0.mod.nolimit.keeps fun b o e => (e0.bs b o e).1
  obtain ⟨ccl, cdd, vsC, ccs, file, tf, hcode, hvs, hfile⟩ := T.code
  obtain ⟨cl1, cld, csl, hcell⟩ := T.cell
  have hcl : F.cl.lookup ("__class__" : Str) = some cc := by rw [T.cl]; rfl
  have hclA : ∀ y c, F.cl.lookup y = some c → y = ("__class__" : Str) ∧ c = cc := fun y c e => by
    rw [T.cl] at e
    by_cases hy : y = ("__class__" : Str)
    · subst hy
      exact ⟨rfl, (Option.some.inj e).symm⟩
    · have hb : (y == ("__class__" : Str)) = false := beq_false_of_ne hy
      simp only [List.lookup, hb] at e
      cases e
  have CA : CellsAt F.cl ["__class__"] [none] s.heap H := {
    len := rfl
    all := fun y c e => by
      obtain ⟨_, rfl⟩ := hclA y c e
      have hbk := e0.mod.kin _ _ hcell
      exact ⟨(e0.bs _ _ hbk).2, _, _, (e0.bs _ _ hbk).1, rfl⟩
    inj := fun x y c e1 e2 => (hclA x c e1).1.trans (hclA y c e2).1.symm
    has := fun i y e => by
      cases i with
      | zero =>
        have ey : y = ("__class__" : Str) := (Option.some.inj e).symm
        subst ey
        exact ⟨cc, hcl, fun v ev => by cases ev⟩
      | succ i => cases e }
  refine codeAny_call_function hr.depth (KX _ _ lk) rfl S.co S.gen rfl (PySem.W.codeRec_of KX T.cd) (hb _ _ _ _ ?_)
  refine wpAny_newFunctionEnv S.nocell (fun ⟨n, _⟩ hy => S.par n (List.of_mem_zip hy).1) (fun h₁ hns hsb => ⟨lim.fresh _ hsb, ?_⟩) S.kind
  show codeAny _ _ (.func F.body (envF F fI s.heap.objs.size)) _ _
  refine ks_codeAny_funcAt ?_
  have kp : ∀ b o, s.heap.get? b = some o → h₁.get? b = some o := fun b o e => hsb.extBut b o (Nat.ne_of_lt (Heap.lt_size e)) (Heap.get?_push_of_some _ e)
  obtain ⟨a, y, tm, t2, ev, ha, hm1, h2, hq⟩ := h A outer s H vs Q E (hr.deeper _) hsp
  have I : Inv (ncx CX P w K mg base N F fI A outer s H E) [] (startF N vs [none]) H { s with heap := h₁, toks := s.toks + (([("self" : Str), fl] : List Str).zip us).length } := inv_startN S hr.hd e0 hl r CA hns kp
  generalize hs1 : ({ s with heap := h₁, toks := s.toks + (([("self" : Str), fl] : List Str).zip us).length } : Shared) = s1 at I ⊢
  have KX1 : K.In s1.heap := I.kIn
  obtain ⟨nm, q, NN, bs, bm, sn, sub, ab, col, dd, k0, k1, k2, k3, k5, hC, hbm⟩ := T.oex.cls
  have hC1 := KX1 _ _ hC
  obtain ⟨t1, ho⟩ := exo_at I.hok ha
  have hne : a ≠ C := fun e => by
    rw [e, hC1] at ho
    cases ho
  rw [show execs F.body (envF F fI s.heap.objs.size) = execs (.Expr (.Call (.Attribute (.Call (.Name "super" p0) [] [] p1) "__init__" p2) [msg] [] p3) p4 :: rest) (envF F fI s.heap.objs.size) by rw [hbody]]
  refine ks_wpAt_execs_cons (ks_wpAt_Expr_any (ks_wpAt_MethodCall (pl := pl s.heap.objs.size) (ks_wpAt_super_base (env := envF F fI s.heap.objs.size) hks (S.frk "__class__" (List.mem_singleton.mpr rfl)) (by decide) rfl (KX1 _ _ lk) rfl hpar rfl (KX1 _ _ hcode) rfl hvs hfile T.top ?_) (he _)) I.quiet (hsw _))
  obtain ⟨mb, hb1, hb2⟩ := I.mod.blt
  refine PySem.W.ks_loadName_global S.kind hks (PySem.Calls.loadGlobal_builtin (I.mod.glob.keeps I.bk) hm (hb1.keeps I.bk) ((hb2 "super" (by decide)).trans (by decide +kernel : bootBuiltins "super" = some (.type "super"))) ⟨rfl, ?_⟩)
  refine wpAny_loadName_free S.kind (S.frk "__class__" (List.mem_singleton.mpr rfl)) hcl ⟨_, KX1 _ _ hcell, rfl⟩ ?_
  rw [har]
  have hself : F.scope.names.lookup ("self" : Str) = some .local := S.par "self" (List.mem_cons_self ..)
  obtain ⟨m, hnsM, hsl⟩ := I.loc
  have hN0 : N[(0 : Nat)]? = some ("self" : Str) := by
    have e := S.pre
    cases N with
    | nil => cases e
    | cons n N =>
      have e2 : n :: N.take 2 = ("self" : Str) :: [fl, "__class__"] := e
      rw [List.cons.injEq] at e2
      rw [e2.1]
      rfl
  have hms : m ("self" : Str) = some (.ref a) := by
    obtain ⟨u, ru, lu⟩ := hsl 0 "self" (.ref a) hN0 (by rw [ev]; rfl) (.inl hself)
    obtain rfl : u = Value.ref a := ru
    rcases lu with lu | ⟨lu, _⟩
    · exact lu.2
    · rw [show (ncx CX P w K mg base N F fI A outer s H E).env.kindOf "self" = some .local from hself] at lu
      rcases lu with z | z <;> cases z
  refine wpAny_loadName_local S.kind hself hnsM hms ?_
  obtain ⟨hp1, g1, d1, tk1, os1⟩ := s1
  refine ks_wpAny_isType_cls hC1 rfl ⟨rfl, ?_⟩
  refine ks_wpAny_call_super hC1 rfl ho rfl (fun c e => by cases e) (PySem.W.looks_mroIn KX1 T.own) (fun h' e kk => ?_)
  have I2 := I.kept (t' := tk1) kk
  have KX2 : K.In h' := I2.kIn
  have hC2 := KX2 _ _ hC
  have ho2 := kk _ _ ho
  have hcls : PySem.W.clsIn K C = some { name := nm, bases := bs, mro := .ref C :: bm, ns := NN, qualname := q, hasDict := true, slotNames := sn, subclasses := sub, abstract := ab, collection := col, hasDel := false } := by
    unfold PySem.W.clsIn
    rw [hC] <;> rfl
  have hini := T.ini
  unfold PySem.W.ks_superIn at hini
  rw [hcls, Option.bind_some] at hini
  have Ia : PySem.W.InstAt h' a _ C none := ⟨ho2, rfl, rfl, trivial⟩
  refine PySem.W.kxs_getMethod PySem.W.kxs_ValueError e (PySem.W.looks_opaque KX2 T.opq) (l₀ := .ref C :: bm) (fun A Q E s k q => wpAny_bind ((PySem.W.looks_clsIn KX2 hcls) A _ E s k (wpAny_pure q))) rfl KX2 hini (Ia.type.andThen (PySem.W.looks_subIn KX2 T.ve)) hne (by decide) ?_
  have kp3 : ∀ b o, h'.get? b = some o → (h'.push (PySem.W.kxs_mw "ValueError.__init__" a)).get? b = some o := fun b o e => Heap.get?_push_of_some _ e
  have I3 := I2.kept (h' := h'.push (PySem.W.kxs_mw "ValueError.__init__" a)) (t' := tk1 + 1) kp3
  have hu3 : (h'.push (PySem.W.kxs_mw "ValueError.__init__" a)).get? h'.objs.size = some (PySem.W.kxs_mw "ValueError.__init__" a) := Heap.get?_push_at rfl rfl
  have I4 : Inv (ncx CX P w K mg base N F fI A outer s H E) [(h'.objs.size, PySem.W.kxs_mw "ValueError.__init__" a)] (startF N vs [none]) H _ := I3.pins_of fun p hp => by
    rw [List.mem_singleton.mp hp]
    exact ⟨hu3, I2.hok.fresh (Nat.le_refl _), Nat.ne_of_gt I2.lt, I2.nofs (Nat.le_refl _), fun v z => by cases z⟩
  have ha1 : PA (ncx CX P w K mg base N F fI A outer s H E) [msg] _ := pa_cons hm1 pa_nil (hst _)
  have hst' := hst s.heap.objs.size
  refine PySem.W.kxs_callWith (i := "ValueError.__init__") (x := a) (by rw [hst']; rfl) ?_
  rw [hst']
  refine PySem.Calls.evalArgs_plain ?_
  have hrun := ha1.run p3 _ _ (startF N vs [none]) H (fun vs' H1 => vs'.length = 1 ∧ H1 a = some (exo a C none) ∧ t2 { nx := fun _ H' => Q .non H', rt := Q } (startF N vs [none]) H1) I4 ?_
  · have hst2 : backTo p3 (starEach [msg] (ncx CX P w K mg base N F fI A outer s H E).env) = backTo p3 ((false, eval msg (envF F fI s.heap.objs.size)) :: starEach [] (envF F fI s.heap.objs.size)) := congrArg (backTo p3) hst'
    rw [hst2] at hrun
    refine wpAny_mono hrun (fun ws s2 hw => ?_) fun e s' he => he
    obtain ⟨vs', H1, J, rv, hlen, ha2, hq2⟩ := hw
    have hu := (J.pin _ (List.mem_append_right _ (List.mem_singleton.mpr rfl))).1
    refine ⟨hu, ?_⟩
    have J0 : Inv (ncx CX P w K mg base N F fI A outer s H E) [] (startF N vs [none]) H1 s2 := J.pins_of fun p hp => by cases hp
    refine call_mw T.oex J0 ha2 hu (by
      show ws.length ≤ _
      rw [← rv.length, hlen, sizeLine_eq]; decide) fun s3 J3 => ?_
    refine wpAt_of_wpAny ?_
    refine wpAny_mono (h2.run [] s3 _ H1 _ J3 hq2) (fun fl s' hs => ?_) fun e s' hs => hs
    have fin : ∀ {σ' : L2.St} {H' : Hp} {v : V} {u : Value}, Inv (ncx CX P w K mg base N F fI A outer s H E) [] σ' H' s' → L2.RelV v u → Q v H' → CE outer P w H s Q u s' :=
      fun {σ' H' v u} J rv q => ⟨v, H', J.os, J.bare, J.base, J.hok, rv, q⟩
    cases fl with
    | ret u =>
      obtain ⟨v, σ', H', J, rv, q⟩ := hs
      exact fin J rv q
    | next =>
      obtain ⟨σ', H', J, q⟩ := hs
      exact fin (v := V.non) (u := Value.none) J rfl q
    | brk =>
      obtain ⟨_, _, _, q⟩ := hs
      exact False.elim q
    | cont =>
      obtain ⟨_, _, _, q⟩ := hs
      exact False.elim q
  · exact hq
end
end EX
/-! own errors: made, their fields, isinstance of them -/
namespace EX
open PySem PySem.Spec PyProof.Rows L2 NdefX
set_option autoImplicit false
section
variable {X : Cx}
/-- {x}: a text, an int or None, as a text that is not told -/
def MsgOk (x : V) : Prop := (∃ y : Str, x = .str y ∧ y.length ≤ 1000) ∨ (∃ i : Int, x = .int i ∧ i.natAbs.log2 < 1920) ∨ x = .non
def tFmtN (te : TE) : TE := fun σ H Q => te σ H fun x H1 => MsgOk x ∧ ∀ y : Str, y.length ≤ 10000 → Q (.str y) H1
theorem int_text {i : Int} (h : i.natAbs.log2 < 1920) : (Str.ofString (toString i)).length ≤ 10000 := by
  have e := int_text_length_le (k := 1920) (by decide) h
  rw [PySem.ofString_length]
  omega
theorem pe_fmtN {e : Expr} {te : TE} {pos : Pos} (he : PE X e te) : PE X (.FormattedValue e (-1) none pos) (tFmtN te) := by
  refine ⟨fun pins s σ H Q I h => ?_⟩
  refine wpAny_FormattedValue_plain (thn (he.run pins s σ H _ I h) fun v s1 hv => ?_)
  obtain ⟨x, H1, I1, r1, q, k⟩ := hv
  rcases q with ⟨y, rfl, hz⟩ | ⟨i, rfl, hz⟩ | rfl
  · obtain ⟨t, rfl⟩ := r1
    have q := k y (by omega)
    exact wpAny_formatField_str ⟨.str y, H1, I1, ⟨t, rfl⟩, q⟩ ⟨.str y, H1, I1.tok _, ⟨_, rfl⟩, q⟩ (by rw [sizeLine_eq]; omega)
  · obtain ⟨t, rfl⟩ := r1
    exact wpAny_formatField_int hz ⟨.str (toString i), H1, I1.tok _, ⟨_, rfl⟩, k _ (int_text hz)⟩
  · obtain rfl : v = Value.none := r1
    exact wpAny_formatField_none ⟨.str "None", H1, I1.tok _, ⟨_, rfl⟩, k "None" (by decide)⟩
/-- one argument, its end weakened -/
theorem pa_one {e : Expr} {te : TE} (he : PE X e te) (hs : starEach [e] X.env = (false, eval e X.env) :: starEach [] X.env := by rfl) : PA X [e] (fun σ H Q => ∃ Q0 : VK, te σ H Q0 ∧ ∀ y H1, Q0 y H1 → Q [y] H1) := by
  have h1 : PA X [e] _ := pa_cons he pa_nil hs
  refine ⟨fun pos pins s σ H Q I h => ?_⟩
  obtain ⟨Q0, h0, k⟩ := h
  have h2 := h1.run pos pins s σ H (fun vs H1 => ∃ y, vs = [y] ∧ Q0 y H1) I ?_
  · refine thn h2 fun us s1 hh => ?_
    obtain ⟨vs, H1, J, rv, y, rfl, q⟩ := hh
    exact ⟨[y], H1, J, rv, k y H1 q⟩
  · have e2 : (fun (x : V) (H1 : Hp) => ∃ y, [x] = [y] ∧ Q0 y H1) = Q0 := by
      funext x H1
      exact propext ⟨fun ⟨y, e, q⟩ => by cases e; exact q, fun q => ⟨x, rfl, q⟩⟩
    show te σ H (fun (x : V) (H1 : Hp) => ∃ y, [x] = [y] ∧ Q0 y H1)
    rw [e2]
    exact h0
end
/-! ### the class -/
def oexB (K : PySem.W.Frag) (C : Addr) : Bool := match K.lookup C with
  | some ⟨.type "type", _, .cls cd, sl⟩ => (match cd.mro, sl.toList with
    | .ref C' :: bm, [_, _, _, _, some (.builtin n), _] => C' == C && n == "ValueError.__new__" && !cd.hasDel && cd.hasDict && PySem.HandSPX.refsVE bm
    | _, _ => false)
  | _ => false
theorem oexB_ok {K : PySem.W.Frag} {C : Addr} (q : oexB K C = true) : ∃ nm q N bs bm sn sub ab col dd k0 k1 k2 k3 k5, K.lookup C = some (excClassObj nm q C N bs bm true sn sub ab col dd k0 k1 k2 k3 k5 "ValueError.__new__") ∧ PySem.HandSPX.refsVE bm = true := by
  unfold oexB at q
  split at q
  · rename_i dd cd sl ho
    split at q
    · rename_i C' bm k0 k1 k2 k3 n k5 hm hs
      simp only [Bool.and_eq_true, beq_iff_eq, Bool.not_eq_true'] at q
      obtain ⟨⟨⟨⟨rfl, rfl⟩, hdel⟩, hh⟩, ht⟩ := q
      obtain ⟨nm, bs, mro, ns, qn, hd, sn, sub, ab, col, del⟩ := cd
      dsimp only at hm hdel hh
      subst hm hdel hh
      have hsl : sl = #[k0, k1, k2, k3, some (.builtin "ValueError.__new__"), k5] := by
        obtain ⟨l⟩ := sl
        simp only at hs
        rw [hs]
      subst hsl
      exact ⟨nm, qn, ns, bs, bm, sn, sub, ab, col, dd, k0, k1, k2, k3, k5, ho, ht⟩
    · cases q
  · cases q
/-- an own error's class -/
structure ErrC (K : PySem.W.Frag) (C : Addr) : Prop where
  oex : OexC K C
  xf : XfC K C
  ha : PySem.W.findIn K (.ref C) "__class__" = some (some (.builtin "object.__class__"))
  hn : PySem.W.specialIn K (.builtin "object.__class__") "__get__" = some (some (.builtin "getset_descriptor.__get__"))
  ht : PySem.W.takesIn K (.builtin "object.__class__") = some true
  hm : PySem.W.mroIn K C (.type "object") = some true
def errB (K : PySem.W.Frag) (C : Addr) : Bool := oexB K C && (decide (PySem.W.findIn K (.ref C) "__setattr__" = some (some (.builtin "object.__setattr__"))) && (decide (PySem.W.subIn K (.ref C) (.type "BaseException") = some true) && (decide (PySem.W.typeIn K (.ref C) = some (.type "type")) && (PySem.W.keepIn K (.ref C) && (xfB K C &&
  (decide (PySem.W.findIn K (.ref C) "__class__" = some (some (.builtin "object.__class__"))) && (decide (PySem.W.specialIn K (.builtin "object.__class__") "__get__" = some (some (.builtin "getset_descriptor.__get__"))) && (decide (PySem.W.takesIn K (.builtin "object.__class__") = some true) && decide (PySem.W.mroIn K C (.type "object") = some true)))))))))
theorem errB_ok {K : PySem.W.Frag} {C : Addr} (h : errB K C = true) : ErrC K C := by
  unfold errB at h
  simp only [Bool.and_eq_true, decide_eq_true_eq] at h
  obtain ⟨h1, h2, h3, h4, h5, h6, h7, h8, h9, h10⟩ := h
  exact ⟨⟨oexB_ok h1, h2, h3, h4, h5⟩, xfB_ok h6, h7, h8, h9, h10⟩
/-! ### a caught error: its fields, isinstance -/
def tXfE (K : PySem.W.Frag) (a : Addr) (cls : Value) (d : Option Addr) (f : Str) (te : TE) : TE := fun σ H Q => te σ H fun x H1 => ∃ C : Addr, x = .ref a ∧ cls = .ref C ∧ ErrC K C ∧ PySem.W.findIn K (.ref C) f = some none ∧ ∃ (dd : Addr) (fs : List (Str × V)) (v : V), d = some dd ∧ H1 dd = some (.xd fs) ∧ fs.lookup f = some v ∧ Q v H1
theorem pe_xfE {X : Cx} {a : Addr} {oe : Obj} {cls : Value} {d : Option Addr} {pn : List (Addr × Obj)} {e : Expr} {te : TE} {pos : Pos} {n : Str}
    (hz : Zc cls d oe) (hf : ∃ vs, oe.data = .fields vs) (he : PE (X.suite a ((a, oe) :: pn)) e te) (hb : attributeBase e n X.env (eval e X.env) = eval e X.env := by rfl) :
    PE (X.suite a ((a, oe) :: pn)) (.Attribute e n pos) (tXfE X.K a cls d n te) := by
  refine ⟨fun pins s σ H Q I h => ?_⟩
  refine attr_of hb (thn (he.run pins s σ H _ I h) fun u s1 hh => ?_)
  obtain ⟨x, H1, I1, rx, C, ex, ec, T, hno, dd, fs, v, ed, ea, l, q⟩ := hh
  subst ex
  obtain rfl : u = Value.ref a := rx
  subst ec
  subst ed
  obtain ⟨ha, _⟩ := I1.pin (a, oe) (List.mem_append_left _ List.mem_cons_self)
  obtain ⟨vs, hd⟩ := hf
  have hx : ObjOk X.prog X.w H1 s1.heap dd (.xd fs) := I1.hok dd _ ea
  obtain ⟨mA, hns, hr⟩ := hx
  obtain ⟨od, ho, hl⟩ := lookIn_ns hns
  obtain ⟨u, hu, ru⟩ := RelO.some_of (v := v) (o := mA n) (by rw [← l]; exact hr n)
  have J : PySem.W.InstAt s1.heap a oe C (some od) := ⟨ha, hz.1, by unfold PySem.W.notCls; rw [hd] <;> rfl, by rw [hz.2]; exact ho⟩
  exact HandSPX.exc_get I1.kIn J T.xf.ga T.xf.gg T.xf.exC (PySem.W.findObj_own T.xf.hdC hno rfl (by rw [hl, hu])) (handed_of ru) ⟨v, H1, I1.tok _, ru, q⟩
theorem kit_err {K : PySem.W.Frag} {C x : Addr} {ox : Obj} {od : Option Obj} (T : ErrC K C) : PySem.W.KitX K (.ref x) (.ref C) (fun h => PySem.W.InstAt h x ox C od) := by
  have hf : PySem.W.findObj K C od "__class__" = some (.bind (.builtin "getset_descriptor.__get__") (.builtin "object.__class__")) := PySem.W.findObj_dataE (by obtain ⟨cd, hc, _⟩ := PySem.W.any_some T.xf.hdC; rw [hc]; rfl) T.ha T.hn T.ht
  exact {
    ty := fun _ _ _ I => I.type
    it := fun _ _ X _ => by
      obtain ⟨cdD, hcD, _⟩ := PySem.W.any_some T.xf.hdC
      unfold PySem.W.clsIn at hcD
      split at hcD
      · rename_i c' d' cd' sl' ho
        intro A' Q' E' s' k q
        unfold isType loadHead
        exact wpAny_bind (wpAny_loadPart (k _ _ (X _ _ ho)) (wpAny_pure q))
      · cases hcD
    ne := fun h tp dd its n sl X htp => by
      obtain ⟨cdD, hcD, _⟩ := PySem.W.any_some T.xf.hdC
      refine Bool.eq_false_iff.mpr fun q => ?_
      have e : C = tp := Value.ref.inj (beq_iff_eq.mp q)
      subst e
      unfold PySem.W.clsIn at hcD
      split at hcD
      · rename_i c' d' cd' sl' ho
        have z := (X _ _ ho).symm.trans htp
        cases z
      · cases hcD
    ca := fun X I k => PySem.W.kx_classE X I T.xf.ga T.xf.gg T.xf.exC hf T.hm k }
/-- isinstance(e, c), e the exception that the suite holds -/
def rIsX (K : PySem.W.Frag) (a : Addr) (cls : Value) (d : Option Addr) : List V → Hp → VK → Prop := fun xs H Q => ∃ (C : Addr) (c : V) (cv : Value) (b : Bool), xs = [.ref a, c] ∧ cls = .ref C ∧ ErrC K C ∧ (∀ dd, d = some dd → ∃ fs, H dd = some (.xd fs)) ∧ (∀ u, RelV c u → u = cv) ∧ PySem.W.kitOne K (.ref C) cv = some b ∧ Q (.bl b) H
theorem inst_err {X : Cx} {pins pn : List (Addr × Obj)} {σ : L2.St} {H : Hp} {s : Shared} {a C : Addr} {oe : Obj} {d : Option Addr} (I : Inv (X.suite a ((a, oe) :: pn)) pins σ H s) (hz : Zc (.ref C) d oe) (hf : ∃ vs, oe.data = .fields vs) (hd : ∀ dd, d = some dd → ∃ fs, H dd = some (.xd fs)) : ∃ od, PySem.W.InstAt s.heap a oe C od := by
  obtain ⟨hget, _⟩ := I.pin (a, oe) (List.mem_append.mpr (.inl List.mem_cons_self))
  obtain ⟨vs, hv⟩ := hf
  cases d with
  | none => exact ⟨none, hget, hz.1, by unfold PySem.W.notCls; rw [hv] <;> rfl, by rw [hz.2]; trivial⟩
  | some dd =>
    obtain ⟨fs, e⟩ := hd dd rfl
    have hx : ObjOk X.prog X.w H s.heap dd (.xd fs) := I.hok dd _ e
    obtain ⟨mA, hns, hr⟩ := hx
    obtain ⟨od, ho, hl⟩ := lookIn_ns hns
    exact ⟨some od, hget, hz.1, by unfold PySem.W.notCls; rw [hv] <;> rfl, by rw [hz.2]; exact ho⟩
theorem call_isX {X : Cx} {a : Addr} {oe : Obj} {cls : Value} {d : Option Addr} {pn : List (Addr × Obj)} (hz : Zc cls d oe) (hf : ∃ vs, oe.data = .fields vs) : CallR (X.suite a ((a, oe) :: pn)) (.builtin "isinstance") (rIsX X.K a cls d) := by
  intro pins s σ H xs us Q I r h
  obtain ⟨C, c, cv, b, rfl, rfl, T, hd, hcv, e, q⟩ := h
  cases r with
  | cons rx rr =>
    cases rr with
    | cons rt rr =>
      cases rr
      cases rx
      have ec := hcv _ rt
      subst ec
      obtain ⟨od, J⟩ := inst_err I hz hf hd
      exact PySem.W.kia_one (kit_err T) I.kIn J e (fun z => nomatch z) fun tk => ⟨.bl b, H, I.kept (t' := tk) fun _ _ z => z, rfl, q⟩
/-- isinstance(e, (c, ..)) -/
def rIsXT (K : PySem.W.Frag) (a : Addr) (cls : Value) (d : Option Addr) : List V → Hp → VK → Prop := fun xs H Q => ∃ (C t : Addr) (cs : List V) (cvs : List Value) (b : Bool), xs = [.ref a, .ref t] ∧ cls = .ref C ∧ ErrC K C ∧ (∀ dd, d = some dd → ∃ fs, H dd = some (.xd fs)) ∧ H t = some (.tup cs) ∧ (∀ us, Vals cs us → us = cvs) ∧ PySem.W.kitAny K (.ref C) cvs = some b ∧ Q (.bl b) H
theorem call_isXT {X : Cx} {a : Addr} {oe : Obj} {cls : Value} {d : Option Addr} {pn : List (Addr × Obj)} (hz : Zc cls d oe) (hf : ∃ vs, oe.data = .fields vs) : CallR (X.suite a ((a, oe) :: pn)) (.builtin "isinstance") (rIsXT X.K a cls d) := by
  intro pins s σ H xs us Q I r h
  obtain ⟨C, t, cs, cvs, b, rfl, rfl, T, hd, ht, hcv, e, q⟩ := h
  cases r with
  | cons rx rr =>
    cases rr with
    | cons rt rr =>
      cases rr
      cases rx
      cases rt
      obtain ⟨od, J⟩ := inst_err I hz hf hd
      have hx : ObjOk X.prog X.w H s.heap t (.tup cs) := I.hok t _ ht
      obtain ⟨hl, its, hv, ⟨oc, od', dt, sl⟩, ho, hc, n, hd2⟩ := hx
      dsimp only at hc hd2
      subst hc hd2
      have eI := hcv _ hv
      subst eI
      exact PySem.W.kia_tup (kit_err T) I.kIn J ho e (fun z => nomatch z) fun tk => ⟨.bl b, H, I.kept (t' := tk) fun _ _ z => z, rfl, q⟩
/-! ### an error is made -/
/-- what __init__ promises -/
def spErr (C : Addr) (fl : Str) (ok : V → Prop) : Sp := fun vs H Q _ => ∃ (a : Addr) (y : V), vs = [.ref a, y] ∧ H a = some (exo a C none) ∧ ok y ∧ ∀ dx, H dx = none → dx ≠ a → Q .non (upd (upd H dx (exd dx [(fl, y)])) a (exo a C (some dx)))
/-- C(e): the class, its dict with the one field -/
def tMkE (C : Addr) (fl : Str) (ok : V → Prop) (te : TE) : L2.St → Hp → XK → Prop := fun σ H Q => te σ H fun y H1 => ok y ∧ ∀ d, H1 d = none → Q (.ref C) (some d) (upd H1 d (.xd [(fl, y)]))
theorem pmk_err {X : Cx} {x fl : Str} {ok : V → Prop} {C fI : Addr} {fd : FuncData} {k : Nat} {e : Expr} {te : TE} {p pos : Pos} (T : ErrC X.K C) (iC : PySem.W.findIn X.K (.ref C) "__init__" = some (some (.ref fI))) (tI : PySem.W.typeIn X.K (.ref fI) = some (.type "function"))
    (F1 : FnOk X.prog X.w X.K X.mg X.base CX0 k fI fd ["self", fl] (spErr C fl ok)) (hr : Room (k + 1) X.A) (hb : Binds X.K fd ["self", fl] []) (hg : Gl X x) (hm : X.mg x = some (.ref C)) (he : PE X e te)
    (hdb : (x == ("__debug__" : Str)) = false := by decide) (hs : starEach [e] X.env = (false, eval e X.env) :: starEach [] X.env := by rfl) : PMk X (.Call (.Name x p) [e] [] pos) (tMkE C fl ok te) := by
  intro pins s σ H Q I h
  have h0 := pmk_oex (p := p) (pos := pos) T.oex iC tI F1 hr hb .nil pass0 hg hm (pa_one he hs) hdb hs (by rfl)
  refine h0 pins s σ H Q I ⟨_, h, fun y H1 ⟨oky, k⟩ => ⟨by show 1 ≤ 1000; decide, fun a na => ⟨a, y, rfl, upd_same, oky, fun dx ndx ne => ?_⟩⟩⟩
  have n1 : H1 dx = none := by
    rw [upd_ne ne] at ndx
    exact ndx
  refine ⟨rfl, dx, [(fl, y)], upd_same, (upd_ne ne).trans upd_same, n1, ?_⟩
  have eh : upd (del (upd (upd (upd H1 a (exo a C none)) dx (exd dx [(fl, y)])) a (exo a C (some dx))) a) dx (.xd [(fl, y)]) = upd H1 dx (.xd [(fl, y)]) := by
    funext b
    by_cases h1 : b = dx
    · rw [h1, upd_same, upd_same]
    · rw [upd_ne h1, upd_ne h1]
      by_cases h2 : b = a
      · rw [h2, del_same, na]
      · rw [del_ne h2, upd_ne h2, upd_ne h1, upd_ne h2]
  rw [eh]
  exact k dx n1
/-- C(), no own __init__ -/
theorem pmk_err0 {X : Cx} {x : Str} {C : Addr} {p pos : Pos} (q : PySem.W.excIn X.K C He.veBase "ValueError.__new__" = true) (T : ErrC X.K C) (hg : Gl X x) (hm : X.mg x = some (.ref C))
    (hdb : (x == ("__debug__" : Str)) = false := by decide) : PMk X (.Call (.Name x p) [] [] pos) (fun _ H Q => Q (.ref C) none H) := by
  intro pins s σ H Q I h
  refine wpAny_Call_Name_kw (ld_glob I hg hm ?_ hdb)
  refine PySem.W.callWith_K0 I.kIn T.oex.kC ?_
  obtain ⟨bm, N, nm, qn, bs, hdct, sn, sub, ab, col, dd, k0, k1, k2, k3, k5, mN, hC, hN, hni, Tl⟩ := exc_obj I.kIn q
  refine wpAny_call_exc_subT F.excBase_ValueError Tl hC hN hni (fun h' e hm => ?_) (by show 0 ≤ sizeLine; rw [sizeLine_eq]; omega)
  exact mk_of I hm (raises_own T.oex.exC T.oex.tyC) h (I.hok.gone hm.new)
end EX
/-! own errors as the top leaves them -/
namespace EX
open PySem PySem.Spec PyProof.Rows L2 NdefX
set_option autoImplicit false
/-- an error class with its __init__(self, fl) -/
structure DfE (P : Program) (K : PySem.W.Frag) (mg : Str → Option Value) (x fl : Str) (ok : V → Prop) where
  C : Addr
  fI : Addr
  fd : FuncData
  g : mg x = some (.ref C)
  T : ErrC K C
  iC : PySem.W.findIn K (.ref C) "__init__" = some (some (.ref fI))
  tI : PySem.W.typeIn K (.ref fI) = some (.type "function")
  no : PySem.W.findIn K (.ref C) fl = some none
  b : Binds K fd ["self", fl] []
  F : ∀ (w : World) (base : Heap), FnOk P w K mg base CX0 1 fI fd ["self", fl] (spErr C fl ok)
/-- an error class without an __init__ -/
structure DfE0 (K : PySem.W.Frag) (mg : Str → Option Value) (x : Str) where
  C : Addr
  g : mg x = some (.ref C)
  T : ErrC K C
  q : PySem.W.excIn K C He.veBase "ValueError.__new__" = true
/-! ### the two bodies -/
theorem app_len (a b : Str) : (a ++ b).length = a.length + b.length := by
  show (a.cps ++ b.cps).size = a.cps.size + b.cps.size
  rw [Array.size_append]
section
variable {P : Program} {w : World} {K : PySem.W.Frag} {mg : Str → Option Value} {base : Heap} {C fI cc : Addr} {F : NF} {fl : Str} {oc doc pm ctv : Value} {od : Option Addr} {osl : Array (Option Value)} {ar : Arg}
/-- f'.. {fl}' -/
theorem init_f {p0 p1 p2 p3 p4 q1 q2 q3 q4 q5 q6 q7 q8 : Pos} {m : Str} {j : Nat} {pl : Addr → Sem Bool} (T : SupC P K C fI cc F) (lk : K.lookup fI = some ⟨oc, od, .func (F.fd doc pm ctv), osl⟩) (hm : mg "super" = none) (S : NScope ["self", fl, "__class__"] ["self", fl] ["__class__"] F.scope) (no : PySem.W.findIn K (.ref C) fl = some none)
    (hbody : F.body = [.Expr (.Call (.Attribute (.Call (.Name "super" p0) [] [] p1) "__init__" p2) [.JoinedStr [.Constant (.str m) j q1, .FormattedValue (.Name fl q2) (-1) none q3] q4] [] p3) p4, .Assign [.Attribute (.Name "self" q5) fl q6] (.Name fl q7) q8]) (hml : m.length ≤ 1000)
    (hpar : (F.params.posonlyargs ++ F.params.args).head? = some ar) (har : ar.arg = "self") (hks : F.scope.names.lookup ("super" : Str) = some .globalImplicit) (hdb : (fl == ("__debug__" : Str)) = false) (hdc : (fl == ("__classdict__" : Str)) = false)
    (he : ∀ L : Addr, eval (.Call (.Attribute (.Call (.Name "super" p0) [] [] p1) "__init__" p2) [.JoinedStr [.Constant (.str m) j q1, .FormattedValue (.Name fl q2) (-1) none q3] q4] [] p3) (envF F fI L) = (do
      let ov ← attributeBase (.Call (.Name "super" p0) [] [] p1) "__init__" (envF F fI L) (eval (.Call (.Name "super" p0) [] [] p1) (envF F fI L))
      standAt p2.atName
      let (f, first) ← holding [ov] (getMethod ov "__init__" (pl L))
      callWith p3 f first (backTo p3 (starEach [.JoinedStr [.Constant (.str m) j q1, .FormattedValue (.Name fl q2) (-1) none q3] q4] (envF F fI L))) [])) :
    FnOk P w K mg base CX0 1 fI (F.fd doc pm ctv) ["self", fl] (spErr C fl MsgOk) := by
  have vs : F.scope.names.lookup ("self" : Str) = some .local := S.par "self" (List.mem_cons_self ..)
  have vf : F.scope.names.lookup fl = some .local := S.par fl (List.mem_cons_of_mem _ (List.mem_cons_self ..))
  refine sup_ok (k := 0) T lk hm S hbody hpar har hks (fun vs H Q E h => ?_) (fun A outer s H vs Q E hr h => ?_) he (fun L => rfl) (fun L => rfl)
  · obtain ⟨a, y, rfl, _⟩ := h
    rfl
  · obtain ⟨a, y, rfl, ha, ok, k⟩ := h
    refine ⟨a, y, _, _, rfl, ha, pe_joined (.cons pe_str (.cons (pe_fmtN (pe_var (i := 1) rfl (.inl vf) (hd := hdb) (hcd := hdc))) .nil)), pss_one (ps_ost (pe_var (i := 0) rfl (.inl vs)) (pe_var (i := 1) rfl (.inl vf) (hd := hdb) (hcd := hdc)) (by rfl)), ?_⟩
    refine ⟨m, rfl, by rw [app_len, sizeLine_eq]; show 0 + _ ≤ _; omega, y, rfl, ok, fun z hz => ⟨z, rfl, by rw [app_len, app_len, sizeLine_eq]; show 0 + _ + _ ≤ _; omega, rfl, ha, y, rfl, .ref a, rfl, a, C, rfl, T.oex, no, .inl ⟨ha, fun dx n1 n2 => k dx n1 n2⟩⟩⟩
/-- a written text -/
theorem init_c {p0 p1 p2 p3 p4 q1 q5 q6 q7 q8 : Pos} {m : Str} {j : Nat} {pl : Addr → Sem Bool} (T : SupC P K C fI cc F) (lk : K.lookup fI = some ⟨oc, od, .func (F.fd doc pm ctv), osl⟩) (hm : mg "super" = none) (S : NScope ["self", fl, "__class__"] ["self", fl] ["__class__"] F.scope) (no : PySem.W.findIn K (.ref C) fl = some none)
    (hbody : F.body = [.Expr (.Call (.Attribute (.Call (.Name "super" p0) [] [] p1) "__init__" p2) [.Constant (.str m) j q1] [] p3) p4, .Assign [.Attribute (.Name "self" q5) fl q6] (.Name fl q7) q8])
    (hpar : (F.params.posonlyargs ++ F.params.args).head? = some ar) (har : ar.arg = "self") (hks : F.scope.names.lookup ("super" : Str) = some .globalImplicit) (hdb : (fl == ("__debug__" : Str)) = false) (hdc : (fl == ("__classdict__" : Str)) = false)
    (he : ∀ L : Addr, eval (.Call (.Attribute (.Call (.Name "super" p0) [] [] p1) "__init__" p2) [.Constant (.str m) j q1] [] p3) (envF F fI L) = (do
      let ov ← attributeBase (.Call (.Name "super" p0) [] [] p1) "__init__" (envF F fI L) (eval (.Call (.Name "super" p0) [] [] p1) (envF F fI L))
      standAt p2.atName
      let (f, first) ← holding [ov] (getMethod ov "__init__" (pl L))
      callWith p3 f first (backTo p3 (starEach [.Constant (.str m) j q1] (envF F fI L))) [])) :
    FnOk P w K mg base CX0 1 fI (F.fd doc pm ctv) ["self", fl] (spErr C fl fun _ => True) := by
  have vs : F.scope.names.lookup ("self" : Str) = some .local := S.par "self" (List.mem_cons_self ..)
  have vf : F.scope.names.lookup fl = some .local := S.par fl (List.mem_cons_of_mem _ (List.mem_cons_self ..))
  refine sup_ok (k := 0) T lk hm S hbody hpar har hks (fun vs H Q E h => ?_) (fun A outer s H vs Q E hr h => ?_) he (fun L => rfl) (fun L => rfl)
  · obtain ⟨a, y, rfl, _⟩ := h
    rfl
  · obtain ⟨a, y, rfl, ha, ok, k⟩ := h
    refine ⟨a, y, _, _, rfl, ha, pe_str, pss_one (ps_ost (pe_var (i := 0) rfl (.inl vs)) (pe_var (i := 1) rfl (.inl vf) (hd := hdb) (hcd := hdc)) (by rfl)), ?_⟩
    exact ⟨rfl, ha, y, rfl, .ref a, rfl, a, C, rfl, T.oex, no, .inl ⟨ha, fun dx n1 n2 => k dx n1 n2⟩⟩
end
/-! ### the top's facts -/
/-- an __init__: its class, its field, its def -/
structure InD where
  cls : Str
  qual : Str
  fld : Str
  params : Arguments
  body : List Stmt
  scope : Scope
abbrev FnY : Type := Option (Str × Str × Arguments × FuncBody × Scope × Addr × Value × Value × Option Addr × Addr)
def fnY (K : PySem.W.Frag) (x : Str) : FnY := match K.lookup (He.ma K (He.ga K x) "__init__") with
  | some ⟨_, _, .func fd, _⟩ => some (fd.name, fd.qualname, fd.params, fd.body, fd.scope, fd.globals, fd.defaults, fd.kwdefaults, fd.annotations, fd.builtins)
  | _ => none
def InD.val (d : InD) : FnY := some ("__init__", d.qual, d.params, .stmts d.body, d.scope, mainGlobals, .none, .none, none, builtinsNs)
/-- the code object of the program's own text -/
def codeB (P : Program) (K : PySem.W.Frag) (c : Addr) (q : Str) : Bool := PySem.W.codeIn K (.ref c) q && (match K.lookup c with
  | some ⟨_, _, .fields vs, _⟩ => (match (vs[2]? : Option Value) with
    | some (Value.str file _) => (P.main.file : Str) == file
    | _ => false)
  | _ => false)
def codeV (P : Program) (K : PySem.W.Frag) (v : Value) (q : Str) : Bool := match v with
  | .ref c => codeB P K c q
  | _ => false
def cellB (K : PySem.W.Frag) (C c : Addr) : Bool := match K.lookup c with
  | some ⟨_, _, .cell (some (.ref D)), _⟩ => D == C
  | _ => false
def clB (K : PySem.W.Frag) (C : Addr) (l : List (Str × Addr)) : Bool := match l with
  | [(y, c)] => decide (y = "__class__") && cellB K C c
  | _ => false
def fdB (P : Program) (K : PySem.W.Frag) (C fI : Addr) : Bool := match K.lookup fI with
  | some ⟨_, _, .func fd, _⟩ => clB K C fd.closure && codeV P K fd.code fd.qualname
  | _ => false
def supB (P : Program) (K : PySem.W.Frag) (d : InD) : Bool := errB K (He.ga K d.cls) && (fdB P K (He.ga K d.cls) (He.ma K (He.ga K d.cls) "__init__") && (decide (PySem.W.nsIn K cStatics "thirdparty.any" = some none) && (decide (PySem.W.ks_superIn K (He.ga K d.cls) (He.ga K d.cls) "__init__" = some (some (.builtin "ValueError.__init__"))) &&
  (decide (PySem.W.subIn K (.ref (He.ga K d.cls)) (.type "ValueError") = some true) && (decide (PySem.W.mroIn K (He.ga K d.cls) (.ref (He.ga K d.cls)) = some true) && (decide (PySem.W.findIn K (.ref (He.ga K d.cls)) "__init__" = some (some (.ref (He.ma K (He.ga K d.cls) "__init__")))) &&
  (decide (PySem.W.typeIn K (.ref (He.ma K (He.ga K d.cls) "__init__")) = some (.type "function")) && (decide (PySem.W.findIn K (.ref (He.ga K d.cls)) d.fld = some none) && He.eqO (PySem.W.nsIn K mainGlobals d.cls) (some (some (.ref (He.ga K d.cls))))))))))))
theorem cellB_ok {K : PySem.W.Frag} {C c : Addr} (h : cellB K C c = true) : ∃ (cl : Value) (cld : Option Addr) (csl : Array (Option Value)), K.lookup c = some (⟨cl, cld, .cell (some (.ref C)), csl⟩ : Obj) := by
  unfold cellB at h
  split at h
  · rename_i a b D s e
    have : D = C := eq_of_beq h
    subst this
    exact ⟨a, b, s, e⟩
  · cases h
theorem codeB_ok {P : Program} {K : PySem.W.Frag} {c : Addr} {q : Str} (h : codeB P K c q = true) : PySem.W.codeIn K (.ref c) q = true ∧ ∃ (ccl : Value) (cdd : Option Addr) (vs : Array Value) (ccs : Array (Option Value)) (file : Str) (tf : Tok), K.lookup c = some (⟨ccl, cdd, .fields vs, ccs⟩ : Obj) ∧ vs[2]? = some (Value.str file tf) ∧ ((P.main.file : Str) == file) = true := by
  unfold codeB at h
  obtain ⟨h1, h⟩ := Bool.and_eq_true_iff.mp h
  refine ⟨h1, ?_⟩
  split at h
  · rename_i a b vs s e
    split at h
    · rename_i file t e2
      exact ⟨a, b, vs, s, file, t, e, e2, h⟩
    · cases h
  · cases h
/-- what is known of the class behind the top -/
theorem init_at {P : Program} {K : PySem.W.Frag} {d : InD} (e : fnY K d.cls = d.val) (c : supB P K d = true) (top : (P.main.scope.names.lookup ("super" : Str)).isSome = false) :
    ∃ (F : NF) (cc : Addr) (oc doc pm ctv : Value) (od : Option Addr) (osl : Array (Option Value)), F.name = "__init__" ∧ F.qual = d.qual ∧ F.params = d.params ∧ F.body = d.body ∧ F.scope = d.scope ∧ SupC P K (He.ga K d.cls) (He.ma K (He.ga K d.cls) "__init__") cc F ∧ K.lookup (He.ma K (He.ga K d.cls) "__init__") = some ⟨oc, od, .func (F.fd doc pm ctv), osl⟩ := by
  unfold supB at c
  simp only [Bool.and_eq_true, decide_eq_true_eq] at c
  obtain ⟨c1, c2, c3, c4, c5, c6, c7, c8, c9, c10⟩ := c
  have E := errB_ok c1
  unfold fdB at c2
  unfold fnY at e
  cases q : K.lookup (He.ma K (He.ga K d.cls) "__init__") with
  | none =>
    rw [q] at c2
    cases c2
  | some o =>
    obtain ⟨oc, od, dt, osl⟩ := o
    rw [q] at c2 e
    cases dt with
    | func fd =>
      obtain ⟨n1, n2, n3, n4, n5, n6, n7, n8, n9, n10, n11, n12, n13, n14, n15⟩ := fd
      have e2 : (some (n1, n2, n3, n4, n5, n6, n8, n9, n12, n15) : FnY) = some (("__init__" : Str), d.qual, d.params, FuncBody.stmts d.body, d.scope, mainGlobals, Value.none, Value.none, (none : Option Addr), builtinsNs) := e
      simp only [Option.some.injEq, Prod.mk.injEq] at e2
      obtain ⟨h1, h2, h3, h4, h5, h6, h7, h8, h9, h10⟩ := e2
      subst h1 h2 h3 h4 h5 h6 h7 h8 h9 h10
      have c3' : (clB K (He.ga K d.cls) n7 && codeV P K n13 d.qual) = true := c2
      obtain ⟨k1, k2⟩ := Bool.and_eq_true_iff.mp c3'
      unfold clB at k1
      split at k1
      · rename_i y cc
        obtain ⟨k3, k4⟩ := Bool.and_eq_true_iff.mp k1
        have ey : y = "__class__" := of_decide_eq_true k3
        subst ey
        cases n13 with
        | ref cd =>
          obtain ⟨k5, k6⟩ := codeB_ok k2
          exact ⟨⟨"__init__", d.qual, d.params, d.body, d.scope, [("__class__", cc)], cd⟩, cc, oc, n10, n11, n14, od, osl, rfl, rfl, rfl, rfl, rfl, ⟨E.oex, rfl, k5, k6, cellB_ok k4, top, c3, c4, c5, c6⟩, rfl⟩
        | _ => cases k2
      · cases k1
    | _ => cases c2
theorem mkE {P : Program} {K : PySem.W.Frag} {h : Heap} {mg : Str → Option Value} {d : InD} {ok : V → Prop} (X : K.In h) (G : h.Ns mainGlobals mg) (e : fnY K d.cls = d.val) (c : supB P K d = true) (top : (P.main.scope.names.lookup ("super" : Str)).isSome = false)
    (hb : ∀ (F : NF) (doc pm ctv : Value) (us : List Value), F.name = "__init__" → F.qual = d.qual → F.params = d.params → F.body = d.body → F.scope = d.scope → us.length = 2 → bindArgs (F.fd doc pm ctv) ⟨us, []⟩ = pure ((([("self" : Str), d.fld] : List Str)).zip us))
    (hF : ∀ (F : NF) (cc : Addr) (oc doc pm ctv : Value) (od : Option Addr) (osl : Array (Option Value)) (w : World) (base : Heap), F.params = d.params → F.body = d.body → F.scope = d.scope → SupC P K (He.ga K d.cls) (He.ma K (He.ga K d.cls) "__init__") cc F →
      K.lookup (He.ma K (He.ga K d.cls) "__init__") = some ⟨oc, od, .func (F.fd doc pm ctv), osl⟩ → PySem.W.findIn K (.ref (He.ga K d.cls)) d.fld = some none → FnOk P w K mg base CX0 1 (He.ma K (He.ga K d.cls) "__init__") (F.fd doc pm ctv) ["self", d.fld] (spErr (He.ga K d.cls) d.fld ok)) :
    ∃ D : DfE P K mg d.cls d.fld ok, D.C = He.ga K d.cls := by
  obtain ⟨F, cc, oc, doc, pm, ctv, od, osl, f1, f2, f3, f4, f5, S, lk⟩ := init_at e c top
  unfold supB at c
  simp only [Bool.and_eq_true, decide_eq_true_eq] at c
  obtain ⟨c1, c2, c3, c4, c5, c6, c7, c8, c9, c10⟩ := c
  exact ⟨⟨He.ga K d.cls, He.ma K (He.ga K d.cls) "__init__", F.fd doc pm ctv, PySem.W.mg_of X G (He.eqO_ok c10), errB_ok c1, c7, c8, c9, .all fun us hl => hb F doc pm ctv us f1 f2 f3 f4 f5 hl, fun w base => hF F cc oc doc pm ctv od osl w base f3 f4 f5 S lk c9⟩, rfl⟩
/-! ### the Hook -/
def ex0B (K : PySem.W.Frag) (x : Str) : Bool := errB K (He.ga K x) && (PySem.W.excIn K (He.ga K x) He.veBase "ValueError.__new__" && He.eqO (PySem.W.nsIn K mainGlobals x) (some (some (.ref (He.ga K x)))))
/-- isinstance of an instance of x, y: b -/
def kitB (K : PySem.W.Frag) (p : Str × Str × Bool) : Bool := decide (PySem.W.kitOne K (.ref (He.ga K p.1)) (.ref (He.ga K p.2.1)) = some p.2.2)
abbrev AlX : Type := He.AlD × Bool × List FnY
/-- an own class that isinstance, == and != ask -/
structure OwnC (K : PySem.W.Frag) (C : Addr) : Prop where
  ha : PySem.W.findIn K (.ref C) "__class__" = some (some (.builtin "object.__class__"))
  hn : PySem.W.specialIn K (.builtin "object.__class__") "__get__" = some (some (.builtin "getset_descriptor.__get__"))
  ht : PySem.W.takesIn K (.builtin "object.__class__") = some true
  hm : PySem.W.mroIn K C (.type "object") = some true
  me : PySem.W.kitOne K (.ref C) (.ref C) = some true
  ne : PySem.W.findIn K (.ref C) "__ne__" = some (some (.builtin "object.__ne__"))
def ownB (K : PySem.W.Frag) (x : Str) : Bool := decide (PySem.W.findIn K (.ref (He.ga K x)) "__class__" = some (some (.builtin "object.__class__"))) && (decide (PySem.W.specialIn K (.builtin "object.__class__") "__get__" = some (some (.builtin "getset_descriptor.__get__"))) && (decide (PySem.W.takesIn K (.builtin "object.__class__") = some true) &&
  (decide (PySem.W.mroIn K (He.ga K x) (.type "object") = some true) && (decide (PySem.W.kitOne K (.ref (He.ga K x)) (.ref (He.ga K x)) = some true) && decide (PySem.W.findIn K (.ref (He.ga K x)) "__ne__" = some (some (.builtin "object.__ne__")))))))
theorem ownB_ok {K : PySem.W.Frag} {x : Str} (h : ownB K x = true) : OwnC K (He.ga K x) := by
  unfold ownB at h
  simp only [Bool.and_eq_true, decide_eq_true_eq] at h
  obtain ⟨h1, h2, h3, h4, h5, h6⟩ := h
  exact ⟨h1, h2, h3, h4, h5, h6⟩
/-- isinstance of a value of the built-in class T, y: false; y is no such class's own -/
structure KtyF (K : PySem.W.Frag) (T : String) (C : Addr) : Prop where
  no : PySem.W.kitOne K (.type T) (.ref C) = some false
  nf : PySem.W.notFirst K C (.type T) = true
def ktyB (K : PySem.W.Frag) (p : String × Str) : Bool := decide (PySem.W.kitOne K (.type p.1) (.ref (He.ga K p.2)) = some false) && PySem.W.notFirst K (He.ga K p.2) (.type p.1)
theorem ktyB_ok {K : PySem.W.Frag} {p : String × Str} (h : ktyB K p = true) : KtyF K p.1 (He.ga K p.2) := by
  unfold ktyB at h
  simp only [Bool.and_eq_true, decide_eq_true_eq] at h
  exact ⟨h.1, h.2⟩
structure Xs where
  ini : List InD := []
  ex : List Str := []
  kit : List (Str × Str × Bool) := []
  exm : List (Str × Str × Bool) := []
  own : List Str := []
  kty : List (String × Str) := []
def Xs.ok (P : Program) (x : Xs) (K : PySem.W.Frag) : Bool := x.ini.all (supB P K) && (x.ex.all (ex0B K) && (x.kit.all (kitB K) && ((x.exm.all fun p => (He.Fa.exm p.1 p.2.1 p.2.2).ok K) && (x.own.all (ownB K) && x.kty.all (ktyB K)))))
def obsX (P : Program) (fa : List He.Fa) (fn : List He.DefD) (x : Xs) (K : PySem.W.Frag) : AlX := (He.obsD fa fn K, x.ok P K, x.ini.map fun d => fnY K d.cls)
def valX (fn : List He.DefD) (x : Xs) : AlX := (He.valD fn, true, x.ini.map InD.val)
def obsXG (P : Program) (n : Nat) (fa : List He.Fa) (fn : List He.DefD) (x : Xs) (g : Addr → Option Obj) : AlX := obsX P fa fn x (He.frG g (cStatics :: He.asD g n))
def SaysX (P : Program) (fa : List He.Fa) (fn : List He.DefD) (x : Xs) (K : PySem.W.Frag) : Prop := obsX P fa fn x K = valX fn x
def hookX (P : Program) (n : Nat) (fa : List He.Fa) (fn : List He.DefD) (x : Xs) : PySem.W.Hook where
  α := AlX
  obs := fun s => obsXG P n fa fn x s.heap.get?
  val := fun _ => valX fn x
  says := fun _ h => ∃ K : PySem.W.Frag, K.In h ∧ SaysX P fa fn x K
  of := fun _ _ e => ⟨_, He.frG_in, e⟩
  keeps := fun _ _ _ ⟨K, hK, c⟩ k => ⟨K, PySem.W.Frag.In.keeps hK k, c⟩
theorem obsXG_eq {P : Program} {n : Nat} {fa : List He.Fa} {fn : List He.DefD} {x : Xs} {g : Addr → Option Obj} {s : Shared} (h : ∀ a, g a = s.heap.get? a) : obsXG P n fa fn x g = (hookX P n fa fn x).obs s := by
  have e : g = s.heap.get? := funext h
  rw [e] <;> rfl
section
variable {P : Program} {fa : List He.Fa} {fn : List He.DefD} {x : Xs} {K : PySem.W.Frag}
theorem SaysX.d (c : SaysX P fa fn x K) : He.SaysD fa fn K := congrArg (fun z : AlX => z.1) c
theorem SaysX.b (c : SaysX P fa fn x K) : x.ok P K = true := congrArg (fun z : AlX => z.2.1) c
theorem SaysX.ini (c : SaysX P fa fn x K) (i : Nat) {d : InD} (h : x.ini[i]? = some d := by rfl) : supB P K d = true ∧ fnY K d.cls = d.val := by
  obtain ⟨b, _⟩ := Bool.and_eq_true_iff.mp c.b
  refine ⟨List.all_eq_true.mp b d (List.mem_of_getElem? h), ?_⟩
  have e : x.ini.map (fun d => fnY K d.cls) = x.ini.map InD.val := congrArg (fun z : AlX => z.2.2) c
  have e2 : (x.ini.map fun d => fnY K d.cls)[i]? = (x.ini.map InD.val)[i]? := by rw [e]
  rw [List.getElem?_map, List.getElem?_map, h] at e2
  exact Option.some.inj e2
theorem SaysX.ex {h : Heap} {mg : Str → Option Value} (c : SaysX P fa fn x K) (X : K.In h) (G : h.Ns mainGlobals mg) (i : Nat) {y : Str} (hy : x.ex[i]? = some y := by rfl) : ∃ D : DfE0 K mg y, D.C = He.ga K y := by
  obtain ⟨_, b⟩ := Bool.and_eq_true_iff.mp c.b
  obtain ⟨b, _⟩ := Bool.and_eq_true_iff.mp b
  have z := List.all_eq_true.mp b y (List.mem_of_getElem? hy)
  unfold ex0B at z
  simp only [Bool.and_eq_true] at z
  exact ⟨⟨He.ga K y, PySem.W.mg_of X G (He.eqO_ok z.2.2), errB_ok z.1, z.2.1⟩, rfl⟩
theorem SaysX.kit (c : SaysX P fa fn x K) (i : Nat) {p : Str × Str × Bool} (hy : x.kit[i]? = some p := by rfl) : PySem.W.kitOne K (.ref (He.ga K p.1)) (.ref (He.ga K p.2.1)) = some p.2.2 := by
  obtain ⟨_, b⟩ := Bool.and_eq_true_iff.mp c.b
  obtain ⟨_, b⟩ := Bool.and_eq_true_iff.mp b
  obtain ⟨b, _⟩ := Bool.and_eq_true_iff.mp b
  exact of_decide_eq_true (List.all_eq_true.mp b p (List.mem_of_getElem? hy))
theorem SaysX.exm (c : SaysX P fa fn x K) (i : Nat) {p : Str × Str × Bool} (hy : x.exm[i]? = some p := by rfl) : PySem.W.exmOne K (.ref (He.ga K p.1)) (.ref (He.ga K p.2.1)) = some p.2.2 := by
  obtain ⟨_, b⟩ := Bool.and_eq_true_iff.mp c.b
  obtain ⟨_, b⟩ := Bool.and_eq_true_iff.mp b
  obtain ⟨_, b⟩ := Bool.and_eq_true_iff.mp b
  obtain ⟨b, _⟩ := Bool.and_eq_true_iff.mp b
  exact He.exm_ok (List.all_eq_true.mp b p (List.mem_of_getElem? hy))
theorem SaysX.own (c : SaysX P fa fn x K) (i : Nat) {y : Str} (hy : x.own[i]? = some y := by rfl) : OwnC K (He.ga K y) := by
  obtain ⟨_, b⟩ := Bool.and_eq_true_iff.mp c.b
  obtain ⟨_, b⟩ := Bool.and_eq_true_iff.mp b
  obtain ⟨_, b⟩ := Bool.and_eq_true_iff.mp b
  obtain ⟨_, b⟩ := Bool.and_eq_true_iff.mp b
  obtain ⟨b, _⟩ := Bool.and_eq_true_iff.mp b
  exact ownB_ok (List.all_eq_true.mp b y (List.mem_of_getElem? hy))
theorem SaysX.kty (c : SaysX P fa fn x K) (i : Nat) {p : String × Str} (hy : x.kty[i]? = some p := by rfl) : KtyF K p.1 (He.ga K p.2) := by
  obtain ⟨_, b⟩ := Bool.and_eq_true_iff.mp c.b
  obtain ⟨_, b⟩ := Bool.and_eq_true_iff.mp b
  obtain ⟨_, b⟩ := Bool.and_eq_true_iff.mp b
  obtain ⟨_, b⟩ := Bool.and_eq_true_iff.mp b
  obtain ⟨_, b⟩ := Bool.and_eq_true_iff.mp b
  exact ktyB_ok (List.all_eq_true.mp b p (List.mem_of_getElem? hy))
end
end EX
/-! sorted(set of texts), sorted(list of texts) of any length -/
namespace TXB
open PySem PySem.Spec PyProof.Rows L2 PySem.W
set_option autoImplicit false
def leS : Str → Str → Bool := dataLe false fun x : Str => PyData.str x
def TxtV (v : Value) (x : Str) : Prop := ∃ t, v = Value.str x t
theorem each_of : ∀ {us : List Value} {xs : List Str}, StrsAre us xs → EachIs TxtV us xs
  | _, _, .nil => .nil
  | _, _, .cons n t r => .cons ⟨t, rfl⟩ (each_of r)
theorem strs_of : ∀ {us : List Value} {xs : List Str}, EachIs TxtV us xs → StrsAre us xs
  | _, _, .nil => .nil
  | _, _, .cons ⟨t, rfl⟩ r => .cons _ t (strs_of r)
theorem vals_of : ∀ {us : List Value} {xs : List Str}, EachIs TxtV us xs → Vals (xs.map V.str) us
  | _, _, .nil => .nil
  | _, _, .cons h r => .cons h (vals_of r)
theorem reads_of {h : Heap} : ∀ {us : List Value} {xs : List Str}, EachIs TxtV us xs → EachIs (fun v x => ∃ as, Reads h v (PyData.str x) as) us xs
  | _, _, .nil => .nil
  | _, _, .cons ⟨t, rfl⟩ r => .cons ⟨[], .str _ t⟩ (reads_of r)
theorem al_strs (xs : List Str) : AllAlike (xs.map fun x => PyData.str x) := by
  intro d hd d' hd'
  obtain ⟨a, _, rfl⟩ := List.mem_map.mp hd
  obtain ⟨b, _, rfl⟩ := List.mem_map.mp hd'
  simp [alike]
theorem so_strs (xs : List Str) : Sortable (xs.map fun x => PyData.str x) := by
  refine .inr fun d hd => ?_
  obtain ⟨a, _, rfl⟩ := List.mem_map.mp hd
  exact ⟨by simp, fun ys => by simp⟩
theorem leS_iff {a b : Str} : leS a b = true ↔ a.cps.toList ≤ b.cps.toList := by
  unfold leS
  rw [dataLe_str fun x : Str => x]
  exact decide_eq_true_iff
theorem ms_perm (xs : List Str) : (xs.mergeSort leS).Perm xs := List.mergeSort_perm xs leS
theorem ms_sorted (xs : List Str) : sortedS (xs.mergeSort leS) = true := by
  refine sortedS_of_pairwise _ ?_
  have h := List.pairwise_mergeSort (le := leS) (fun a b c h1 h2 => leS_iff.mpr (List.le_trans (leS_iff.mp h1) (leS_iff.mp h2))) (fun a b => by
    rw [Bool.or_eq_true, leS_iff, leS_iff]
    exact List.le_total _ _) xs
  refine h.imp fun {a b} hab => ?_
  rw [ltCps_eq]
  exact decide_eq_false (List.not_lt.mpr (leS_iff.mp hab))
section
variable {P : Program} {w : World} {A : Around} {E : Value → Shared → Prop} {s : Shared}
open TX in
theorem sorted_atB {a : Addr} {l : List Str} {Q : Value → Shared → Prop} (R : At P w s.heap a l) (hh : A.handled = none) (hsb : l.length < scanBound) (hu : A.units + 4 < cLine)
    (hQ : ∀ s' p (out : Array Value) (c : Nat) (ys : List Str), (∀ b o, s.heap.get? b = some o → s'.heap.get? b = some o) → s'.gens = s.gens → s'.os = s.os → s.heap.objs.size ≤ p →
      s'.heap.get? p = some (seqObj "list" out c) → StrsAre out.toList ys → ys.Perm l → sortedS ys = true → Q (.ref p) s') :
    wpAny (model P w) A (call (.builtin "sorted") [.ref a]) Q E s := by
  obtain ⟨⟨es, ep, t⟩, ho, ok⟩ := R
  have ft : t.fits es.size = true := ok.tx.fit
  have z : es.size = l.length := ok.tx.sz
  have sb : es.size < scanBound := by omega
  refine Calls.call_function_entry kind_sorted plain_sorted entry_sorted (args_sorted1 _) ?_
  unfold Builtin.«sorted»
  refine wpAny_bind (m := checkCount "sorted" 1 1 _) (wpAny_pure ?_)
  refine wpAny_bind (collect_set (A := A.in1) hh ⟨_, ho, rfl, rfl⟩ ft sb ok.up ok.led fun s1 vs k1 hz g1 o1 pm => ?_)
  obtain ⟨ks, hS, mem, hlen⟩ := texts_of ok.tx.el vs fun v hv => pm.mem_iff.mp hv
  have vl : vs.length = l.length := by rw [pm.length_eq, List.length_map, Array.length_toList]; exact z
  have pk : ks.Perm l := perm_of_sub l ks ok.nd (fun k hk => by
    obtain ⟨e, he, q⟩ := (ok.tx.mem k).mp hk
    exact (mem k).mpr ⟨e.2, pm.mem_iff.mpr (List.mem_map.mpr ⟨e, he, rfl⟩), q⟩) (by omega)
  have szl : vs.length ≤ sizeLine := by
    rw [vl, sizeLine_eq]
    unfold scanBound at hsb
    omega
  refine wpAny_bind (wpAny_newList ?_ szl)
  have hoL : (s1.heap.push (seqObj "list" vs.toArray 0)).get? s1.heap.objs.size = some (seqObj "list" vs.toArray 0) := Heap.get?_push_size _ rfl
  have ei := each_of hS
  have un : ∀ d, d ∈ ks.map (fun x => PyData.str x) → A.in1.in1.units + d.depth < cLine := fun d hd => by
    obtain ⟨b, _, rfl⟩ := List.mem_map.mp hd
    have u1 : A.in1.in1.units ≤ A.units + 2 := by first | exact Nat.le_refl _ | simp [Around.in1]
    simp only [PyData.depth]
    omega
  have er : EachIs (fun v x => ∃ as, Reads (sortingHeap (s1.heap.push (seqObj "list" vs.toArray 0)) s1.heap.objs.size vs) v (PyData.str x) as) vs ks := reads_of ei
  refine wpAny_bind (wpAny_holding (wpAny_call_entry slot_list_sort ⟨_, hoL, rfl⟩ entry_list_sort
    (list_sort_vals (s := { s1 with heap := s1.heap.push (seqObj "list" vs.toArray 0) }) hoL (SortsAt.data (s := { s1 with heap := sortingHeap (s1.heap.push (seqObj "list" vs.toArray 0)) s1.heap.objs.size vs }) (each_map (R := fun v x => ∃ as, Reads (sortingHeap (s1.heap.push (seqObj "list" vs.toArray 0)) s1.heap.objs.size vs) v x as) (fun x : Str => PyData.str x) er) (al_strs ks) (so_strs ks) un) szl ?_) (args_list_sort _)))
  have eo := sortVals_data false ei er (al_strs ks)
  generalize sortVals (dataKind (sortingHeap (s1.heap.push (seqObj "list" vs.toArray 0)) s1.heap.objs.size vs) (ks.map fun x => PyData.str x)) false vs vs = out at eo ⊢
  obtain ⟨c, hc⟩ := sortedHeap_at (vs := vs) (out := out.toArray) hoL
  refine ⟨_, rfl, wpAny_pure ⟨_, rfl, hQ _ s1.heap.objs.size _ c (ks.mergeSort leS) (fun b u e => ?_) g1 o1 hz hc (strs_of eo) ((ms_perm ks).trans pk) (ms_sorted ks)⟩⟩
  have q := k1 b u e
  have lt := Heap.lt_size q
  show (sortedHeap (s1.heap.push (seqObj "list" vs.toArray 0)) s1.heap.objs.size vs _).get? b = some u
  rw [sortedHeap_old (Nat.ne_of_lt lt) (by rw [Heap.size_push]; exact Nat.lt_succ_of_lt lt)]
  exact Heap.get?_push_of_some _ q
end
section
variable {X : Cx}
/-- sorted(set of texts): of any length -/
def rSortTx (P : Program) (w : World) : List V → Hp → VK → Prop := fun vs H Q => ∃ (a : Addr) (l : List Str), vs = [V.ref a] ∧ H a = some (TX.SetTx P w a l) ∧ l.length < scanBound ∧
  ∀ (ys : List Str) (p : Addr), ys.Perm l → sortedS ys = true → H p = none → Q (.ref p) (upd H p (.lst (ys.map V.str)))
theorem cr_sortTx (hc : X.calm = true) (hu : X.A.units + 66 < cLine) : CallR X (.builtin "sorted") (rSortTx X.prog X.w) := by
  intro pins s σ H vs us Q I r h
  obtain ⟨a, l, rfl, ha, hsb, q⟩ := h
  have R : TX.At X.prog X.w s.heap a l := (I.hok a _ ha).1
  rw [Vals.ref1 r]
  refine sorted_atB R (I.ok.hd hc) hsb (by omega) fun s' p out c ys k g o hp hg hi pm so => ?_
  have hlen : (ys.map V.str).length ≤ sizeLine := by
    rw [List.length_map, pm.length_eq, sizeLine_eq]
    unfold scanBound at hsb
    omega
  have hn : H p = none := I.hok.fresh hp
  have J : Inv X pins σ (upd H p (.lst (ys.map V.str))) { s with heap := s'.heap, gens := s'.gens, drawn := s'.drawn, toks := s'.toks } :=
    I.call (ch := []) (Un.laid k hp hn) (I.hok.laid k hp ⟨hlen, out.toList, c, vals_of_strs hi, hg⟩) (by rw [g]; exact I.bare) (fun _ z => nomatch z)
  have e : s' = { s with heap := s'.heap, gens := s'.gens, drawn := s'.drawn, toks := s'.toks } := by
    cases s'
    cases s
    cases o
    rfl
  rw [e]
  exact ⟨.ref p, _, J, rfl, q ys p pm so hn⟩
/-- sorted(xs), xs a list of texts of any length -/
def rSortedS (K : PySem.W.Frag) : List V → Hp → VK → Prop := fun vs H Q => ∃ (a : Addr) (xs : List Str), vs = [V.ref a] ∧ SqL K H a (xs.map V.str) ∧ xs.length ≤ sizeLine ∧
  ∀ (ys : List Str) (p : Addr), ys.Perm xs → sortedS ys = true → H p = none → Q (.ref p) (upd H p (.lst (ys.map V.str)))
theorem cr_sortedS (hu : X.A.units + 66 < cLine) : CallR X (.builtin "sorted") (rSortedS X.K) := by
  intro pins s σ H vs us Q I r h
  obtain ⟨a, xs, rfl, hs, hL, q⟩ := h
  obtain ⟨its, rv, hl, _⟩ := I.list hs
  rw [Vals.ref1 r]
  have ei := each_of rv.strs
  refine sorted_data (enc := fun x : Str => PyData.str x) hl.isList ei (reads_of ei) (al_strs xs) (so_strs xs) hL (fun b _ => ?_) fun out hlen eo => ?_
  · show _ + 2 + (PyData.str _).depth < _
    simp only [PyData.depth]
    omega
  · obtain ⟨c, hc⟩ := sortedAll_at s.heap its out.toArray
    have hn : H (s.heap.objs.size + 1) = none := I.hok.fresh (Nat.le_succ _)
    refine ⟨.ref _, upd H (s.heap.objs.size + 1) (.lst ((xs.mergeSort leS).map V.str)), I.laid (t' := s.toks) (fun _ _ => sortedAll_old) (Nat.le_succ _) ⟨?_, out, c, vals_of eo, hc⟩, rfl, q _ _ (ms_perm xs) (ms_sorted xs) hn⟩
    rw [List.length_map, List.length_mergeSort]
    exact hL
end
end TXB
/-! sets whose items are tuples at any depth (to eight) of texts, numbers, None: {f(x) for x in xs}, sorted(set); fewer than 64 items -/
namespace NSet
open PySem PySem.Spec PyProof.Rows L2 PySem.W
set_option autoImplicit false
abbrev KIt : Type := Addr × NestedKey
def KeyAt (g : Heap) (z : KIt) : Prop := NestedIs g z.2 (.ref z.1) ∧ z.2.depth ≤ 8
abbrev hs1 (w : World) (k : NestedKey) : Int := k.hash w
def ent1 (w : World) (z : KIt) : Int × Value := (hs1 w z.2, .ref z.1)
theorem KeyAt.up {g g' : Heap} {z : KIt} (q : KeyAt g z) (m : ∀ b o, g.get? b = some o → g'.get? b = some o) : KeyAt g' z := ⟨NestedIs.at (fun b o _ _ e _ => m b o e) _ _ q.1, q.2⟩
theorem KeyAt.but {g g' : Heap} {z : KIt} {d : Addr} {o : Obj} {r : Array (Int × Value)} {n : Nat} {T : SetTable} (q : KeyAt g z) (e : g.get? d = some o) (f : o.data = .set r n T) (m : Heap.SameBut d g g') : KeyAt g' z := by
  refine ⟨NestedIs.at (fun b ob vs k h1 h2 => (m.2 b fun x => ?_).trans h1) _ _ q.1, q.2⟩
  rw [x, e] at h1
  cases h1
  rw [f] at h2
  cases h2
theorem KeyAt.one {g : Heap} {y z : KIt} (a : KeyAt g y) (b : KeyAt g z) (e : y.1 = z.1) : y = z := by
  refine Prod.ext e ?_
  have b1 := b.1
  rw [← e] at b1
  exact NestedIs.inj _ _ _ a.1 b1
section
variable {P : Program} {w : World}
/-! ### questions about keys that the search asks -/
def NoC (P : Program) (w : World) (n : Nat) (s : Shared) (v : Value) : Prop := ∀ (B : Around) (E : Value → Shared → Prop) (Q : Bool → Shared → Prop), Q false s → wpAny (model P w) B (ofAClassStatement n v) Q E s
def Hby (P : Program) (w : World) (n : Nat) (s : Shared) (v : Value) : Prop := ∀ (B : Around) (E : Value → Shared → Prop) (Q : Bool → Shared → Prop), (∀ b, Q b s) → wpAny (model P w) B (hashByValue n v) Q E s
theorem NoC.tup {n : Nat} {s : Shared} {b : Addr} {o : Obj} {vs : Array Value} {m : Nat} (e1 : s.heap.get? b = some o) (e2 : o.cls = .type "tuple") (e3 : o.data = .seq vs m) (hq : ∀ v ∈ vs.toList, NoC P w n s v) : NoC P w (n + 1) s (.ref b) := fun B E Q h => by
  have tT : s.TypeIs (.ref b) "tuple" := ⟨o, e1, e2⟩
  unfold ofAClassStatement
  refine wpAny_bind (wpAny_typeOf tT ?_)
  dsimp only
  rw [show (("tuple" : String) == "tuple") = true from by decide]
  simp only [if_true, Bool.not_true, Bool.false_eq_true, if_false]
  try refine wpAny_bind (wpAny_pure ?_)
  try simp only [Bool.not_true, Bool.false_eq_true, if_false]
  refine wpAny_bind (wpAny_seqItems e1 e3 ?_)
  dsimp only
  refine wpAny_bind ?_
  show wpAny _ _ (forIn vs _ _) _ _ s
  rw [← Array.forIn_toList]
  refine wpAny_forIn_list _ (fun l r t => r.1 = none ∧ t = s ∧ ∀ v ∈ l, NoC P w n s v) _ ?_ ?_ _ _ ⟨rfl, rfl, hq⟩
  · rintro v l r t ⟨_, rfl, al⟩
    refine wpAny_bind (al v List.mem_cons_self _ _ _ ?_)
    simp only [Bool.false_eq_true, if_false]
    exact wpAny_pure ⟨rfl, rfl, fun u q => al u (List.mem_cons_of_mem _ q)⟩
  · rintro ⟨r1, r2⟩ t ⟨z, rfl, _⟩
    simp only at z
    subst z
    exact wpAny_pure h
theorem Hby.tup {n : Nat} {s : Shared} {b : Addr} {o : Obj} {vs : Array Value} {m : Nat} (e1 : s.heap.get? b = some o) (e2 : o.cls = .type "tuple") (e3 : o.data = .seq vs m) (hq : ∀ v ∈ vs.toList, Hby P w n s v) : Hby P w (n + 1) s (.ref b) := fun B E Q h => by
  have tT : s.TypeIs (.ref b) "tuple" := ⟨o, e1, e2⟩
  unfold hashByValue
  refine wpAny_bind (wpAny_specialOf tT F.slot_tuple_hash.lookup ?_)
  dsimp only
  refine wpAny_bind (wpAny_seqItems e1 e3 ?_)
  refine wpAny_bind ?_
  show wpAny _ _ (forIn vs _ _) _ _ s
  rw [← Array.forIn_toList]
  refine wpAny_forIn_list _ (fun l r t => t = s ∧ (r.1 = none ∨ r.1 = some false) ∧ (∀ v ∈ l, Hby P w n s v)) _ ?_ ?_ _ _ ⟨rfl, .inl rfl, hq⟩
  · rintro v l r t ⟨rfl, _, al⟩
    refine wpAny_bind (al v List.mem_cons_self _ _ _ fun c => ?_)
    cases c with
    | true =>
      simp only [Bool.not_true, Bool.false_eq_true, if_false]
      exact wpAny_pure ⟨rfl, .inl rfl, fun u q => al u (List.mem_cons_of_mem _ q)⟩
    | false =>
      simp only [Bool.not_false, if_true]
      exact wpAny_pure (wpAny_pure (h false))
  · rintro ⟨r1, r2⟩ t ⟨rfl, z, _⟩
    rcases z with z | z
    · simp only at z
      subst z
      exact wpAny_pure (h true)
    · simp only at z
      subst z
      exact wpAny_pure (h false)
mutual
theorem noC : ∀ (k : NestedKey) (v : Value) (n : Nat) (s : Shared), NestedIs s.heap k v → k.depth ≤ n → NoC P w n s v
  | .none, _, n, s, x, _ => by cases x; cases n <;> exact fun _ _ _ h => wpAny_pure h
  | .num i, _, n, s, x, _ => by cases x <;> cases n <;> exact fun _ _ _ h => wpAny_pure h
  | .text y, _, n, s, x, _ => by cases x; cases n <;> exact fun _ _ _ h => wpAny_pure h
  | .tup ks, _, n, s, x, dn => by
    cases x with
    | tup e1 e2 e3 e4 =>
      simp only [NestedKey.depth] at dn
      cases n with
      | zero => omega
      | succ n => exact .tup e1 e2 e3 (noCs ks _ n s e4 (by omega))
theorem noCs : ∀ (ks : List NestedKey) (vs : List Value) (n : Nat) (s : Shared), NestedAll s.heap ks vs → NestedKey.depthAll ks ≤ n → ∀ v ∈ vs, NoC P w n s v
  | [], _, n, s, x, _, v, hv => by cases x; cases hv
  | k :: ks, _, n, s, x, dn, v, hv => by
    cases x with
    | cons x1 x2 =>
      simp only [NestedKey.depthAll] at dn
      rcases List.mem_cons.mp hv with e | hv
      · rw [e]
        exact noC k _ n s x1 (by omega)
      · exact noCs ks _ n s x2 (by omega) v hv
end
mutual
theorem hby : ∀ (k : NestedKey) (v : Value) (n : Nat) (s : Shared), NestedIs s.heap k v → k.depth ≤ n → Hby P w n s v
  | .none, _, n, s, x, _ => by cases x; cases n <;> exact fun _ _ _ h => wpAny_pure (h _)
  | .num i, _, n, s, x, _ => by cases x <;> cases n <;> exact fun _ _ _ h => wpAny_pure (h _)
  | .text y, _, n, s, x, _ => by cases x; cases n <;> exact fun _ _ _ h => wpAny_pure (h _)
  | .tup ks, _, n, s, x, dn => by
    cases x with
    | tup e1 e2 e3 e4 =>
      simp only [NestedKey.depth] at dn
      cases n with
      | zero => omega
      | succ n => exact .tup e1 e2 e3 (hbys ks _ n s e4 (by omega))
theorem hbys : ∀ (ks : List NestedKey) (vs : List Value) (n : Nat) (s : Shared), NestedAll s.heap ks vs → NestedKey.depthAll ks ≤ n → ∀ v ∈ vs, Hby P w n s v
  | [], _, n, s, x, _, v, hv => by cases x; cases hv
  | k :: ks, _, n, s, x, dn, v, hv => by
    cases x with
    | cons x1 x2 =>
      simp only [NestedKey.depthAll] at dn
      rcases List.mem_cons.mp hv with e | hv
      · rw [e]
        exact hby k _ n s x1 (by omega)
      · exact hbys ks _ n s x2 (by omega) v hv
end
variable {A : Around} {E : Value → Shared → Prop} {s : Shared}
theorem unseen {z : KIt} (q : KeyAt s.heap z) {ys : List Value} (hy : ∀ y ∈ ys, ∃ z', y = Value.ref z'.1 ∧ KeyAt s.heap z') {Q : Bool → Shared → Prop} (h : Q false s) : wpAny (model P w) A (searchCouldBeSeen (.ref z.1) ys) Q E s := by
  unfold searchCouldBeSeen
  refine wpAny_bind ?_
  refine wpAny_forIn_list _ (fun l r t => r.1 = none ∧ t = s ∧ ∀ y ∈ l, ∃ z', y = Value.ref z'.1 ∧ KeyAt s.heap z') _ ?_ ?_ _ _ ⟨rfl, rfl, hy⟩
  · rintro v l r t ⟨_, rfl, al⟩
    obtain ⟨z', rfl, q'⟩ := al v List.mem_cons_self
    have al' : ∀ y ∈ l, ∃ z', y = Value.ref z'.1 ∧ KeyAt t.heap z' := fun u hu => al u (List.mem_cons_of_mem _ hu)
    dsimp only
    by_cases c : (z.1 == z'.1 || (carriedByValue (.ref z.1) && carriedByValue (.ref z'.1))) = true
    · exact wp_if_pos c (wpAny_pure ⟨rfl, rfl, al'⟩)
    · refine wp_if_neg c ?_
      refine wpAny_bind (quiet_key _ _ 8 t q.1 q.2 _ _ _ ?_)
      simp only [Bool.not_true, Bool.false_eq_true, if_false]
      refine wpAny_bind (quiet_key _ _ 8 t q'.1 q'.2 _ _ _ ?_)
      simp only [Bool.not_true, Bool.false_eq_true, if_false]
      refine wpAny_bind (noC _ _ 8 t q.1 q.2 _ _ _ ?_)
      simp only [Bool.false_eq_true, if_false]
      refine wpAny_bind (noC _ _ 8 t q'.1 q'.2 _ _ _ ?_)
      simp only [Bool.false_eq_true, if_false]
      exact wpAny_pure ⟨rfl, rfl, al'⟩
  · rintro ⟨r1, r2⟩ t ⟨e, rfl, _⟩
    simp only at e
    subst e
    exact wpAny_pure h
end
/-! ### the set -/
def rows1 (w : World) (L : List KIt) : List (Int × Value) := L.map (ent1 w)
def hashs (w : World) (L : List KIt) : List Int := L.map fun z => hs1 w z.2
/-- at a stands a set of the rows L -/
structure NS (w : World) (g : Heap) (a : Addr) (L : List KIt) (r : Array (Int × Value)) (n : Nat) (T : SetTable) : Prop where
  ob : ∃ o, g.get? a = some o ∧ o.ExactSet ∧ o.data = .set r n T
  rw : r.toList = rows1 w L
  tb : TabOk T (hashs w L)
  nd : (L.map (·.2)).Nodup
  ky : ∀ z ∈ L, KeyAt g z
  ld : w.params.followText "set-order" = true ∨ T.led = true
  rm : L.length * 5 < T.mask * 3
  fw : L.length < 64
theorem rows_len {w : World} {L : List KIt} {r : Array (Int × Value)} (h : r.toList = rows1 w L) : r.size = L.length := by
  have z := congrArg List.length h
  unfold rows1 at z
  rwa [Array.length_toList, List.length_map] at z
theorem hashs_len (w : World) (L : List KIt) : (hashs w L).length = L.length := List.length_map _
section
variable {P : Program} {w : World} {A : Around} {E : Value → Shared → Prop} {s : Shared} {a : Addr} {L : List KIt} {r : Array (Int × Value)} {n : Nat} {T : SetTable}
theorem NS.fits {g : Heap} (R : NS w g a L r n T) : T.fits r.size = true := by
  have z1 := R.tb.sz
  rw [hashs_len] at z1
  have z2 := rows_len R.rw
  have z3 := R.rm
  unfold SetTable.fits SetTable.fill
  rw [R.tb.dm, Bool.and_eq_true, beq_iff_eq, decide_eq_true_eq]
  exact ⟨by omega, by simp; omega⟩
theorem NS.at {g : Heap} (R : NS w g a L r n T) {i : Nat} {z : KIt} (h : L[i]? = some z) : r[i]? = some (ent1 w z) := by
  rw [← Array.getElem?_toList, R.rw]
  unfold rows1
  rw [List.getElem?_map, h]
  rfl
theorem NS.open {g : Heap} (R : NS w g a L r n T) : ¬ T.gaveWay = true := by
  unfold SetTable.gaveWay
  rw [mask_odd R.tb.mok]
  decide
theorem NS.up {g g' : Heap} (R : NS w g a L r n T) (m : ∀ b o, g.get? b = some o → g'.get? b = some o) : NS w g' a L r n T := by
  obtain ⟨o, e, q⟩ := R.ob
  exact ⟨⟨o, m _ _ e, q⟩, R.rw, R.tb, R.nd, fun z hz => (R.ky z hz).up m, R.ld, R.rm, R.fw⟩
theorem plainDummy (m : Nat) : ∀ (c : Nat) (p : SetTable.Probe), p.dummy = none → (nth m p c).dummy = none
  | 0, _, h => h
  | c + 1, p, h => plainDummy m c (adv m p) (by unfold adv; split <;> exact h)
/-- looking for a key on its way from step c on; K: the first empty place of the way -/
theorem look_from (R : NS w s.heap a L r n T) {z : KIt} (hz : KeyAt s.heap z) (hu : A.units + 8 < cLine) {K : Nat} (kf : K < 10 * SetTable.turns T.mask) (kn : way T.mask (hs1 w z.2) K ∉ T.place.toList)
    (kb : ∀ c, c < K → way T.mask (hs1 w z.2) c ∈ T.place.toList) {Q : SetFound → Shared → Prop} (yes : z.2 ∈ L.map (·.2) → Q (.there none) s) (no : z.2 ∉ L.map (·.2) → Q (.free (way T.mask (hs1 w z.2) K) false) s) :
    ∀ (f c : Nat) (at0 : Option SetTable.Probe), at0.getD (T.probeStart (hs1 w z.2)) = nth T.mask (runAt T.mask (SetTable.bits (hs1 w z.2) % (T.mask + 1)) (SetTable.bits (hs1 w z.2))) c → c ≤ K → K < f + c →
      (∀ (i : Nat) y, L[i]? = some y → y.2 = z.2 → ∃ d, c ≤ d ∧ d < K ∧ T.place.toList[i]? = some (way T.mask (hs1 w z.2) d)) →
      wpAny (model P w) A (setSearchFrom a (.ref z.1) (hs1 w z.2) true f at0) Q E s
  | 0, c, _, _, l1, l2, _ => by omega
  | f + 1, c, at0, e0, l1, l2, ahead => by
    obtain ⟨o, ho, hx, hd⟩ := R.ob
    rw [setSearchFrom_succ]
    refine wpAny_bind (wpAny_setState_of ho hd R.fits ?_)
    dsimp only
    refine wp_if_neg R.open ?_
    try refine wpAny_bind (wpAny_pure ?_)
    generalize hk : hs1 w z.2 = k at e0 kn kb ahead no ⊢
    generalize hB : runAt T.mask (SetTable.bits k % (T.mask + 1)) (SetTable.bits k) = B at e0
    have dn : (nth T.mask B c).dummy = none := plainDummy _ c B (by rw [← hB]; rfl)
    have wq : ∀ q, (nth T.mask (nth T.mask B c) q).j = way T.mask k (c + q) := fun q => by
      rw [← nth_add, ← hB]
    have lastE : (nth T.mask (nth T.mask B c) (K - c)).j = way T.mask k K := by rw [wq, Nat.add_sub_cancel' l1]
    have hh : ∀ (i : Nat) (y : KIt), L[i]? = some y → (fun i => (r[i]?.map (·.1)).getD 0) i = hs1 w y.2 := fun i y hy => by
      simp only [R.at hy]
      rfl
    rcases go_spec T R.tb.ris R.tb.dm (fun i => (r[i]?.map (·.1)).getD 0) k (10 * SetTable.turns T.mask) (K - c) (nth T.mask B c) dn (by omega) (fun q hq => by rw [wq]; exact kb _ (by omega)) (by rw [lastE]; exact kn) with ⟨q, i, hq, hi, hm, none_before, found⟩ | ⟨none_before, found⟩
    · rw [wq] at hi found
      have pr : T.probe (fun i => (r[i]?.map (·.1)).getD 0) k (at0.getD (T.probeStart k)) = some (.candidate (way T.mask k (c + q)) i (nth T.mask (nth T.mask B c) (q + 1))) := by
        rw [e0]
        exact found
      rw [pr]
      dsimp only
      have il : i < L.length := by
        have z1 := (List.getElem?_eq_some_iff.mp hi).1
        have z2 := R.tb.sz
        rw [hashs_len] at z2
        rw [Array.length_toList] at z1
        omega
      obtain ⟨y, hy⟩ : ∃ y, L[i]? = some y := ⟨_, List.getElem?_eq_getElem il⟩
      have ym := List.mem_of_getElem? hy
      have main : wpAny (model P w) A (searchRest a (.ref z.1) k true f r T (way T.mask k (c + q)) i (nth T.mask (nth T.mask B c) (q + 1))) Q E s := by
        unfold searchRest
        rw [R.at hy]
        dsimp only [ent1]
        refine wpAny_bind (wpAny_holding ((nestedKind P w).eqBool (x := y.2) (y := z.2) hu (R.ky y ym) hz ?_))
        refine wpAny_bind (wpAny_setState_of ho hd R.fits ?_)
        dsimp only
        by_cases same : y.2 = z.2
        · refine wp_if_pos (by simp [same]) (wpAny_pure (yes ?_))
          exact List.mem_map.mpr ⟨y, ym, same⟩
        · refine wp_if_neg (by simp [same]) ?_
          try refine wpAny_bind (wpAny_pure ?_)
          rw [sameMem]
          dsimp only
          have sl : T.slot (way T.mask k (c + q)) = .live i := slot_live R.tb.ris hi
          simp only [if_true, sl, R.at hy]
          refine wpAny_bind (wpAny_isSame_ref_self (wpAny_bind (wpAny_pure ?_)))
          simp only [if_true]
          refine wp_if_neg (by simp [same]) ?_
          rw [← hk]
          refine look_from R hz hu kf (by rw [hk]; exact kn) (by rw [hk]; exact kb) yes (by rw [hk]; exact no) f (c + (q + 1)) _ (by rw [hk, hB]; exact (nth_add _ c B (q + 1)).symm) (by omega) (by omega) fun i' y' h1 h2 => ?_
          rw [hk]
          obtain ⟨d, b1, b2, b3⟩ := ahead i' y' h1 h2
          refine ⟨d, ?_, b2, b3⟩
          have hy' : (fun i => (r[i]?.map (·.1)).getD 0) i' = k := by rw [hh i' y' h1, h2]; exact hk
          by_cases d1 : d < c + q
          · exact absurd hy' (none_before (d - c) i' (by omega) (by rw [wq, Nat.add_sub_cancel' b1]; exact b3))
          · by_cases d2 : d = c + q
            · have s2 := slot_live R.tb.ris b3
              rw [d2, sl] at s2
              injection s2 with s2
              rw [← s2, hy] at h1
              cases h1
              exact absurd h2 same
            · omega
      by_cases led : T.led = true
      · refine wp_if_neg (by simp [led]) ?_
        try refine wpAny_bind (wpAny_pure ?_)
        exact main
      · refine wp_if_pos (by simp [led]) ?_
        refine wpAny_bind (unseen hz (fun u hu => ?_) ?_)
        · obtain ⟨e, he, rfl⟩ := List.mem_map.mp hu
          have h1 : e ∈ r.toList := by
            have : e ∈ r ∧ e.1 = k := by simpa using he
            simpa using this.1
          rw [R.rw] at h1
          obtain ⟨z', hz', rfl⟩ := List.mem_map.mp h1
          exact ⟨z', rfl, R.ky z' hz'⟩
        · refine wp_if_neg (by decide) ?_
          try refine wpAny_bind (wpAny_pure ?_)
          exact main
    · rw [lastE] at found
      have pr : T.probe (fun i => (r[i]?.map (·.1)).getD 0) k (at0.getD (T.probeStart k)) = some (.empty (way T.mask k K) none) := by
        rw [e0]
        exact found
      rw [pr]
      dsimp only
      refine wpAny_pure (no fun hm => ?_)
      obtain ⟨y, ym, ye⟩ := List.mem_map.mp hm
      obtain ⟨i, il, ie⟩ := List.getElem_of_mem ym
      have hy : L[i]? = some y := by rw [List.getElem?_eq_getElem il, ie]
      obtain ⟨d, b1, b2, b3⟩ := ahead i y hy ye
      exact none_before (d - c) i (by omega) (by rw [wq, Nat.add_sub_cancel' b1]; exact b3) ((hh i y hy).trans (by rw [ye]; exact hk))
theorem look (R : NS w s.heap a L r n T) {z : KIt} (hz : KeyAt s.heap z) (hu : A.units + 8 < cLine) {Q : SetFound → Shared → Prop} (yes : z.2 ∈ L.map (·.2) → Q (.there none) s)
    (no : ∀ K, z.2 ∉ L.map (·.2) → way T.mask (hs1 w z.2) K ∉ T.place.toList → (∀ c, c < K → way T.mask (hs1 w z.2) c ∈ T.place.toList) → Q (.free (way T.mask (hs1 w z.2) K) false) s) :
    wpAny (model P w) A (setSearch a (.ref z.1) (hs1 w z.2) true) Q E s := by
  have rm := R.rm
  obtain ⟨K, k1, k2, k3⟩ := R.tb.first (by rw [hashs_len]; omega) (hs1 w z.2)
  have tn : 10 * SetTable.turns T.mask ≤ 1420 := by
    unfold SetTable.turns
    rcases R.tb.mok with e | e | e <;> omega
  unfold setSearch
  refine look_from R hz hu k1 k2 k3 yes (fun h => no K h k2 k3) 100000 0 none rfl (Nat.zero_le _) (by omega) fun i y hy ye => ?_
  have hi : (hashs w L)[i]? = some (hs1 w z.2) := by
    unfold hashs
    rw [List.getElem?_map, hy, ← ye]
    rfl
  have il : i < T.place.toList.length := by
    have z1 := (List.getElem?_eq_some_iff.mp hy).1
    have z2 := R.tb.sz
    rw [hashs_len] at z2
    rw [Array.length_toList]
    omega
  obtain ⟨c, c1, c2⟩ := R.tb.before k2 hi (List.getElem?_eq_getElem il)
  exact ⟨c, Nat.zero_le _, c1, by rw [List.getElem?_eq_getElem il, c2]⟩
theorem rows_ins (w : World) (L : List KIt) (p : Nat) (z : KIt) : rows1 w (L.take p ++ z :: L.drop p) = (rows1 w L).take p ++ ent1 w z :: (rows1 w L).drop p := by
  simp only [rows1, List.map_append, List.map_cons, List.map_take, List.map_drop]
theorem hashs_ins (w : World) (L : List KIt) (p : Nat) (z : KIt) : hashs w (L.take p ++ z :: L.drop p) = (hashs w L).take p ++ hs1 w z.2 :: (hashs w L).drop p := by
  simp only [hashs, List.map_append, List.map_cons, List.map_take, List.map_drop]
theorem order_it {w : World} {L : List KIt} {r : Array (Int × Value)} (hr : r.toList = rows1 w L) (order : Array Nat) (pm : order.toList.Perm (List.range L.length)) :
    ∃ M : List KIt, (order.filterMap (r[·]?)).toList = rows1 w M ∧ M.Perm L ∧ hashs w M = order.toList.map fun i => (r.map (·.1)).getD i 0 := by
  have rn := rows_len hr
  have ra : ∀ i (h : i < L.length), r[i]? = some (ent1 w L[i]) := fun i h => by
    rw [← Array.getElem?_toList, hr]
    unfold rows1
    rw [List.getElem?_map, List.getElem?_eq_getElem h]
    rfl
  have each : ∀ l : List Nat, (∀ i ∈ l, i < L.length) → l.filterMap (fun i => r[i]?) = rows1 w (l.filterMap fun i => L[i]?) ∧ hashs w (l.filterMap fun i => L[i]?) = l.map fun i => (r.map (·.1)).getD i 0 := by
    intro l
    induction l with
    | nil => exact fun _ => ⟨rfl, rfl⟩
    | cons i l ih =>
      intro hl
      have il := hl i List.mem_cons_self
      obtain ⟨i1, i2⟩ := ih fun j hj => hl j (List.mem_cons_of_mem _ hj)
      have e0 : (r.map (·.1)).getD i 0 = hs1 w L[i].2 := by
        rw [Array.getD_eq_getD_getElem?, Array.getElem?_map, ra i il]
        rfl
      rw [List.filterMap_cons_some (ra i il), List.filterMap_cons_some (List.getElem?_eq_getElem il), List.map_cons, i1, e0, ← i2]
      exact ⟨rfl, rfl⟩
  obtain ⟨m1, m2⟩ := each order.toList fun i hi => List.mem_range.mp (pm.mem_iff.mp hi)
  have whole : ∀ m, m ≤ L.length → (List.range m).filterMap (fun i => L[i]?) = L.take m := by
    intro m
    induction m with
    | zero => exact fun _ => rfl
    | succ m ih =>
      intro hm
      rw [List.range_succ, List.filterMap_append, ih (Nat.le_of_succ_le hm), List.take_add_one, List.getElem?_eq_getElem hm, List.filterMap_cons_some (List.getElem?_eq_getElem hm)]
      rfl
  refine ⟨order.toList.filterMap fun i => L[i]?, by rw [← m1]; simp, ?_, m2⟩
  have q := pm.filterMap fun i => L[i]?
  rwa [whole L.length (Nat.le_refl _), List.take_length] at q
theorem relay {o : Obj} (ho : s.heap.get? a = some o) (hx : o.ExactSet) (hd : o.data = .set r n T) (hr : r.toList = rows1 w L) (sz : T.place.size = r.size) (dm : T.dummies = #[]) (fl : r.size ≤ T.mask) (nd : (L.map (·.2)).Nodup) (ky : ∀ z ∈ L, KeyAt s.heap z)
    (ld : w.params.followText "set-order" = true ∨ T.led = true) (fw : L.length < 64) {want M : Nat} (e1 : SetTable.sizeAbove want - 1 = M) (hM : MaskOk M) (e2 : SetTable.sizeAbove want ≤ 128) (rm : L.length * 5 < M * 3) {Q : Unit → Shared → Prop}
    (k : ∀ g' L' r' n' T', Heap.SameBut a s.heap g' → NS w g' a L' r' n' T' → L'.Perm L → Q () { s with heap := g' }) : wpAny (model P w) A (setRelay a want) Q E s := by
  have rn := rows_len hr
  have ft : T.fits r.size = true := by
    unfold SetTable.fits SetTable.fill
    rw [dm, Bool.and_eq_true, beq_iff_eq, decide_eq_true_eq]
    exact ⟨sz, by simp; omega⟩
  obtain ⟨T', order, f1, f2, f3, f4, f5, _, _⟩ := relaid_ok T (hs := r.map (·.1)) (wanted := want) e1 hM (by rw [Array.size_map, rn]; omega)
  rw [Array.size_map, rn] at f2
  obtain ⟨L', g1, g2, g3⟩ := order_it hr order f2
  rw [← g3] at f3
  have sz' : (order.filterMap (r[·]?)).size = r.size := by
    rw [rows_len g1, g2.length_eq, rn]
  rw [setRelay_eq]
  refine wpAny_bind (wpAny_setState_of ho hd ft ?_)
  dsimp only
  refine wp_if_neg (by rw [sizeLine_eq]; omega) ?_
  try refine wpAny_bind (wpAny_pure ?_)
  rw [f1]
  dsimp only
  refine wpAny_bind (wp_if_neg (by rw [sz']; simp) ?_)
  try refine wpAny_bind (wpAny_pure ?_)
  refine wpAny_pure ?_
  dsimp only
  refine wpAny_storeSet_of ho hd ?_ (by rw [sz', rn, sizeLine_eq]; omega)
  have sb : Heap.SameBut a s.heap (s.heap.update a (Obj.putSet (order.filterMap (r[·]?)) T')) := Heap.SameBut.update ..
  exact k _ L' _ (n + 1) T' sb ⟨⟨_, store_at ho hd, ⟨hx.1, hx.2.1, hx.2.2⟩, rfl⟩, g1, f3, (g2.map (·.2)).nodup_iff.mpr nd, fun z hz => (ky z (g2.mem_iff.mp hz)).but ho hd sb, by rw [f5]; exact ld, by rw [g2.length_eq, f4]; exact rm, by rw [g2.length_eq]; exact fw⟩ g2
/-- a table without the word that its hashes are plain -/
def dl (T : SetTable) : SetTable := { T with plain := false }
theorem dl_ok {T : SetTable} {hs : List Int} (h : TabOk T hs) : TabOk (dl T) hs := ⟨h.ris, h.dm, h.sz, h.mok, h.bd, h.reach⟩
theorem put_it (R : NS w s.heap a L r n T) {z : KIt} (hz : KeyAt s.heap z) (hu : A.units + 8 < cLine) (fw : L.length + 1 < 64) {Q : Bool → Shared → Prop}
    (k : ∀ b g' L' r' n' T', Heap.SameBut a s.heap g' → NS w g' a L' r' n' T' → (z.2 ∈ L.map (·.2) → L' = L) → (z.2 ∉ L.map (·.2) → L'.Perm (z :: L)) → Q b { s with heap := g' }) :
    wpAny (model P w) A (setAddHashed a (.ref z.1) (hs1 w z.2)) Q E s := by
  obtain ⟨o, ho, hx, hd⟩ := R.ob
  have rn := rows_len R.rw
  have rm := R.rm
  unfold setAddHashed
  refine wpAny_holding ?_
  rw [show (100000 : Nat) = 99999 + 1 from rfl, setAddHashedIn_succ]
  refine wpAny_bind (wpAny_setState_of ho hd R.fits ?_)
  dsimp only
  refine wp_if_neg (by simp [byScan, Value.scannable]) ?_
  try refine wpAny_bind (wpAny_pure ?_)
  refine wpAny_bind (look R hz hu (fun hm => ?_) fun K hm kn kb => ?_)
  · dsimp only
    exact wpAny_pure (k false s.heap L r n T (Heap.SameBut.refl a s.heap) R (fun _ => rfl) fun e => absurd hm e)
  dsimp only
  refine wpAny_bind (wpAny_setState_of ho hd R.fits ?_)
  dsimp only
  obtain ⟨q1, q2, q3, q4, q5, q6, q7, q8, q9⟩ := R.tb.put kn kb
  generalize hpt : T.put (way T.mask (hs1 w z.2) K) = pt at q1 q3 q4 q5 q6 q7 q8 q9 ⊢
  obtain ⟨T1, p⟩ := pt
  dsimp only at q1 q3 q4 q5 q6 q7 q8 q9 ⊢
  subst q1
  generalize SetTable.below T.place (way T.mask (hs1 w z.2) K) = p at q2 q3 ⊢
  have pm := put_perm L p z
  have hin : (SetTable.insertAt r p (hs1 w z.2, .ref z.1)).toList = rows1 w (L.take p ++ z :: L.drop p) := by
    rw [SetTable.toList_insertAt, rows_ins, R.rw]
    rfl
  rw [← hashs_ins] at q3
  have nd1 : ((L.take p ++ z :: L.drop p).map (·.2)).Nodup := (pm.map (·.2)).nodup_iff.mpr (by rw [List.map_cons]; exact List.nodup_cons.mpr ⟨hm, R.nd⟩)
  rw [hashs_len] at q9
  -- behind the question whether the hash is by value
  have fin : ∀ T2 : SetTable, TabOk T2 (hashs w (L.take p ++ z :: L.drop p)) → T2.mask = T.mask → T2.led = T.led → T2.fill = L.length + 1 → wpAny (model P w) A (do
      storeSet a (SetTable.insertAt r p (hs1 w z.2, .ref z.1)) T2
      if (!false && T2.tooFull) = true then setRelay a (SetTable.grown (r.size + 1))
      return true) Q E s := fun T2 t1 t2 t3 t4 => by
    generalize L.take p ++ z :: L.drop p = M at pm hin nd1 t1
    have ml : M.length = L.length + 1 := pm.length_eq
    have rl := rows_len hin
    generalize SetTable.insertAt r p (hs1 w z.2, .ref z.1) = r1 at hin rl ⊢
    refine wpAny_bind (wpAny_storeSet_of ho hd ?_ (by rw [rl, ml, sizeLine_eq]; omega))
    have sb : Heap.SameBut a s.heap (s.heap.update a (Obj.putSet r1 T2)) := Heap.SameBut.update ..
    have ho1 := store_at (es' := r1) (t' := T2) ho hd
    generalize s.heap.update a (Obj.putSet r1 T2) = g1 at sb ho1 ⊢
    have ky1 : ∀ y ∈ M, KeyAt g1 y := fun y hy => by
      rcases List.mem_cons.mp (pm.mem_iff.mp hy) with e | e
      · rw [e]
        exact hz.but ho hd sb
      · exact (R.ky y e).but ho hd sb
    have ld1 : w.params.followText "set-order" = true ∨ T2.led = true := by rw [t3]; exact R.ld
    have tf : T2.tooFull = true ↔ T.mask * 3 ≤ (L.length + 1) * 5 := by
      unfold SetTable.tooFull
      rw [decide_eq_true_eq, t4, t2]
    by_cases full : T2.tooFull = true
    · first
        | (refine wpAny_bind ?_; refine wp_if_pos (by simp [full]) ?_)
        | (refine wp_if_pos (by simp [full]) ?_; refine wpAny_bind ?_)
      have fl := tf.mp full
      have sz1 : T2.place.size = r1.size := by
        have h := t1.sz
        rw [hashs_len] at h
        omega
      have two : (T.mask = 7 ∧ L.length = 4) ∨ (T.mask = 31 ∧ L.length = 18) := by
        rcases R.tb.mok with e | e | e <;> rw [e] at fl rm
        · exact .inl ⟨e, by omega⟩
        · exact .inr ⟨e, by omega⟩
        · omega
      have go : ∀ m, SetTable.sizeAbove (SetTable.grown (r.size + 1)) - 1 = m → MaskOk m → SetTable.sizeAbove (SetTable.grown (r.size + 1)) ≤ 128 → (L.length + 1) * 5 < m * 3 → wpAny (model P w) A (setRelay a (SetTable.grown (r.size + 1))) (fun _ s' => wpAny (model P w) A (pure true) Q E s') E { s with heap := g1 } := fun m x1 x2 x3 x4 => by
        refine relay (s := { s with heap := g1 }) ho1 ⟨hx.1, hx.2.1, hx.2.2⟩ rfl hin sz1 t1.dm (by rcases two with ⟨e, e2⟩ | ⟨e, e2⟩ <;> omega) nd1 ky1 ld1 (by omega) x1 x2 x3 (by rw [ml]; exact x4) fun g2 L2 r2 n2 T3 sb2 R2 pm2 => ?_
        exact wpAny_pure (k true g2 L2 r2 n2 T3 (sb.trans sb2) R2 (fun e => absurd e hm) fun _ => pm2.trans pm)
      rcases two with ⟨_, e2⟩ | ⟨_, e2⟩
      · exact go 31 (by rw [rn, e2, size_20]) (.inr (.inl rfl)) (by rw [rn, e2, size_20]; decide) (by omega)
      · exact go 127 (by rw [rn, e2, size_76]) (.inr (.inr rfl)) (by rw [rn, e2, size_76]; decide) (by omega)
    · first
        | refine wp_if_neg (by simp [full]) ?_
        | (refine wpAny_bind ?_; refine wp_if_neg (by simp [full]) ?_; refine wpAny_pure ?_)
      refine wpAny_pure (k true g1 M r1 (n + 1) T2 sb ⟨⟨_, ho1, ⟨hx.1, hx.2.1, hx.2.2⟩, rfl⟩, hin, t1, nd1, ky1, ld1, ?_, by omega⟩ (fun e => absurd e hm) fun _ => pm)
      rw [ml, t2]
      have := mt tf.mpr full
      omega
  by_cases pl : T1.plain = true
  · first
      | (refine wpAny_bind ?_; refine wp_if_pos pl ?_; refine hby _ _ 8 s hz.1 hz.2 _ _ _ fun b => ?_)
      | refine wp_if_pos pl (wpAny_bind (hby _ _ 8 s hz.1 hz.2 _ _ _ fun b => ?_))
    cases b with
    | true =>
      simp only [if_true]
      exact fin T1 q3 q4 q5 q9
    | false =>
      simp only [Bool.false_eq_true, if_false]
      exact fin (dl T1) (dl_ok q3) q4 q5 q9
  · first
      | (refine wpAny_bind ?_; refine wp_if_neg pl ?_; refine wpAny_pure ?_)
      | refine wp_if_neg pl (wpAny_bind (wpAny_pure ?_))
    simp only [if_true]
    exact fin T1 q3 q4 q5 q9
end
end NSet
/-! sorting tuples that may be empty; {f(x) for x in xs} and sorted of it, as rules -/
namespace NSet
open PySem PySem.Spec PyProof.Rows L2 PySem.W PySem.SeqAt
set_option autoImplicit false
section
variable {prog : Program} {w : World} {A : Around} {s : Shared}
theorem tup_lt {E : Value → Shared → Prop} {Q : Value → Shared → Prop} {l b : Addr} {xs ys : Array Value} {e r : Nat → Bool} (h1 : s.heap.IsTuple l xs) (h2 : s.heap.IsTuple b ys)
    (he : ∀ j (i1 : j < xs.size) (i2 : j < ys.size), EqAt A.in1 s xs[j] ys[j] (e j)) (hr : ∀ j (i1 : j < xs.size) (i2 : j < ys.size), e j = false → RcLt A.in1 s xs[j] ys[j] (r j))
    (k : Q (.bool (firstLt e r (decide (xs.size < ys.size)) (List.range (min xs.size ys.size)))) s) : wpAny (model prog w) A (call (.builtin "tuple.__lt__") [.ref l, .ref b]) Q E s := by
  obtain ⟨⟨c1, d1, t1, l1⟩, o1, e1, n1, f1⟩ := id h1
  obtain ⟨⟨c2, d2, t2, l2⟩, o2, e2, n2, f2⟩ := id h2
  simp only at e1 f1 e2 f2
  subst e1 f1 e2 f2
  exact call_meets F.slot_tuple_lt ⟨_, o1, rfl⟩ F.entry_tuple_lt (F.args_tuple_lt_2 _ _) (tuple_ltAt l b xs ys n1 n2 d1 d2 l1 l2 e r) ⟨o1, o2, he, hr, k⟩
theorem one_tup {f : Bool} {xs ys : List PyData} {a b : Value} {as bs : List Addr} {E : Value → Shared → Prop} {Q : Bool → Shared → Prop} (ra : Reads s.heap a (.tuple xs) as) (rb : Reads s.heap b (.tuple ys) bs) (al : alike (.tuple xs) (.tuple ys) = true)
    (hu : A.units + min (PyData.tuple xs).depth (PyData.tuple ys).depth < cLine) (hq : Q (dataLt (.tuple xs) (.tuple ys)) s) : wpAny (model prog w) A (oneLt' f a b) Q E s := by
  cases f with
  | false => exact oneLt_alike (fun h => nomatch h) ra rb al (by simp) hu hq
  | true =>
    have al2 : alikeAll xs ys = true := by simpa [alike] using al
    cases ra with
    | @tuple l o vs n _ as1 a1 a2 a3 a4 =>
      cases rb with
      | @tuple l' o' us n' _ bs1 b1 b2 b3 b4 =>
        have z1 : vs.size = xs.length := by simpa using ReadsAll.length _ _ _ a4
        have z2 : us.size = ys.length := by simpa using ReadsAll.length _ _ _ b4
        rw [dataLt_tuple, ← firstLt_toks xs ys al2, ← z1, ← z2] at hq
        rw [oneLt'_eq]
        simp only [if_true]
        refine wpAny_bind (wpAny_cRoomFor (room_here hu) ?_)
        refine wpAny_bind (wpAny_callSpecialIfBound?_slot (T := "tuple") ⟨_, a1, a2⟩ F.slot_tuple_lt (tup_lt (e := pairEq xs ys) (r := fun j => dataLt (xs.getD j .none) (ys.getD j .none)) ⟨_, a1, a2, _, a3⟩ ⟨_, b1, b2, _, b3⟩ (fun j j1 j2 => ?_) (fun j j1 j2 hj => ?_) ?_))
        · have := eqAt_alikeAll xs ys A.in1 s vs.toList us.toList _ _ a4 b4 al2 (room_in hu) j (by simpa using j1) (by simpa using j2)
          simpa using this
        · have := rcLt_alikeAll xs ys A.in1 s vs.toList us.toList _ _ a4 b4 al2 (room_in hu) j (by simpa using j1) (by simpa using j2) hj
          simpa using this
        · exact wpAny_truthy_bool hq
/-- what the sort finds of the first items of the keys -/
theorem firsts {M : Model} {E : Value → Shared → Prop} : ∀ (vs : List Value) {Q : List (Option Value) → Shared → Prop}, (∀ v ∈ vs, ∃ a o xs n, v = .ref a ∧ s.heap.get? a = some o ∧ o.cls = .type "tuple" ∧ o.data = .seq xs n) →
    (∀ fs : List (Option Value), fs.length = vs.length → (fs.all (·.isSome) = true → ∀ v ∈ vs, ∃ a o xs n, v = .ref a ∧ s.heap.get? a = some o ∧ o.data = .seq xs n ∧ xs.size ≠ 0) → Q fs s) → wpAny M A (vs.mapM firstOfTuple') Q E s
  | [], _, _, h => by
    rw [List.mapM_nil]
    exact wpAny_pure (h [] rfl fun _ v hv => nomatch hv)
  | v :: vs, Q, t, h => by
    obtain ⟨a, o, xs, n, rfl, ho, hc, hd⟩ := t v List.mem_cons_self
    rw [List.mapM_cons]
    refine wpAny_bind ?_
    rw [kas_first_eq]
    refine wpAny_bind (Looks.here (show Looks M s.heap (typeOf (.ref a)) o.cls from (Looks.ld ho).andThen .now) ?_)
    rw [hc, if_neg (by first | decide | simp)]
    refine wpAny_bind (listItems_at ho hd (wpAny_pure ?_))
    refine wpAny_bind (firsts vs (fun u hu => t u (List.mem_cons_of_mem _ hu)) fun fs l1 l2 => wpAny_pure (h _ (by rw [List.length_cons, List.length_cons, l1]) fun al u hu => ?_))
    rw [List.all_cons, Bool.and_eq_true] at al
    rcases List.mem_cons.mp hu with e | e
    · refine ⟨a, o, xs, n, e, ho, hd, fun z => ?_⟩
      have : xs[0]? = none := by rw [Array.getElem?_eq_none]; omega
      rw [this] at al
      exact absurd al.1 (by simp)
    · exact l2 al.2 u e
theorem each_val {α : Type} {R : Value → α → Prop} : ∀ {us : List Value} {bs : List α}, EachIs R us bs → ∀ u ∈ us, ∃ b ∈ bs, R u b
  | _, _, .nil, u, h => nomatch h
  | _, _, .cons a t, u, h => by
    rcases List.mem_cons.mp h with e | e
    · exact ⟨_, List.mem_cons_self, e ▸ a⟩
    · obtain ⟨b, h1, h2⟩ := each_val t u e
      exact ⟨b, List.mem_cons_of_mem _ h1, h2⟩
/-- tuples that read as alike data can be sorted, empty ones too -/
theorem sorts_tups {vs : List Value} {ds : List PyData} (e : EachIs (fun v d => ∃ as, Reads s.heap v d as) vs ds) (al : AllAlike ds) (tp : ∀ d ∈ ds, ∃ xs, d = .tuple xs) (hu : ∀ d, d ∈ ds → A.units + d.depth < cLine) : SortsAt prog w A s (dataKind s.heap ds) vs := by
  by_cases ne : ∀ d ∈ ds, ∃ x r, d = PyData.tuple (x :: r)
  · exact SortsAt.data e al (.inl ne) hu
  have room : ∀ {d d' : PyData}, d ∈ ds → A.units + min d.depth d'.depth < cLine := fun {d d'} hd => Nat.lt_of_le_of_lt (Nat.add_le_add_left (Nat.min_le_left _ _) _) (hu d hd)
  have lt : ∀ f : Bool, ∀ (E : Value → Shared → Prop) {x y : Value} (p q : (dataKind s.heap ds).α) {Q : Bool → Shared → Prop}, (dataKind s.heap ds).keyOf x = some p → (dataKind s.heap ds).keyOf y = some q → Q ((dataKind s.heap ds).blt p q) s → wpAny (model prog w) A (oneLt' f x y) Q E s := by
    intro f E x y p q Q hx hy hq
    obtain ⟨d, as, hd, ra, rfl⟩ := dataKind_inv hx
    obtain ⟨d', as', hd', rb, rfl⟩ := dataKind_inv hy
    have hal := al d hd d' hd'
    have hr := room (d' := d') hd
    obtain ⟨xs, rfl⟩ := tp d hd
    obtain ⟨ys, rfl⟩ := tp d' hd'
    exact one_tup ra rb hal hr hq
  have tv : ∀ v ∈ vs, ∃ a o xs n, v = .ref a ∧ s.heap.get? a = some o ∧ o.cls = .type "tuple" ∧ o.data = .seq xs n := fun v hv => by
    obtain ⟨d, hd, as, r⟩ := each_val e v hv
    obtain ⟨xs, rfl⟩ := tp d hd
    cases r with
    | @tuple l o us n _ _ a1 a2 a3 a4 => exact ⟨l, o, us, n, rfl, a1, a2, a3⟩
  have keys : ∀ v, v ∈ vs → ∃ a, (dataKind s.heap ds).keyOf v = some a := fun v hv => by
    obtain ⟨d, hd, as, r⟩ := each_val e v hv
    exact ⟨_, dataKind_some al hd r⟩
  -- which kind it is depends on the first key alone
  have kindly : ∀ (kd : SortKind), kd = general' ∨ kd = oneType' → H.LtAt prog w A s (dataKind s.heap ds) kd := by
    rintro kd (rfl | rfl) E x y a b Q hx hy hq
    · exact lt false E _ _ hx hy hq
    · exact lt true E _ _ hx hy hq
  by_cases h3 : ¬ 2 ≤ vs.length
  · exact ⟨keys, general', kindly _ (.inl rfl), fun h => absurd h h3⟩
  have h2 : 2 ≤ vs.length := Classical.not_not.mp h3
  obtain ⟨v1, rest, rfl⟩ : ∃ v1 rest, vs = v1 :: rest := by
    match vs, h2 with
    | v1 :: rest, _ => exact ⟨v1, rest, rfl⟩
  obtain ⟨a0, o0, xs0, n0, rfl, q1, q2, q3⟩ := tv v1 List.mem_cons_self
  have notall : ∀ fs : List (Option Value), (fs.all (·.isSome) = true → ∀ v ∈ Value.ref a0 :: rest, ∃ a o xs n, v = .ref a ∧ s.heap.get? a = some o ∧ o.data = .seq xs n ∧ xs.size ≠ 0) → fs.all (·.isSome) = false := fun fs h => by
    rw [Bool.eq_false_iff]
    intro z
    refine ne fun d hd => ?_
    obtain ⟨xs, rfl⟩ := tp d hd
    have h' := h z
    obtain ⟨v, hv, as, r⟩ : ∃ v ∈ Value.ref a0 :: rest, ∃ as, Reads s.heap v (.tuple xs) as := by
      have gen : ∀ {us : List Value} {bs : List PyData}, EachIs (fun v d => ∃ as, Reads s.heap v d as) us bs → PyData.tuple xs ∈ bs → ∃ v ∈ us, ∃ as, Reads s.heap v (.tuple xs) as := by
        intro us bs E
        induction E with
        | nil => exact fun h => nomatch h
        | cons a t ih =>
          intro h
          rcases List.mem_cons.mp h with e | e
          · exact ⟨_, List.mem_cons_self, e ▸ a⟩
          · obtain ⟨v, h1, h2⟩ := ih e
            exact ⟨v, List.mem_cons_of_mem _ h1, h2⟩
      exact gen e hd
    obtain ⟨a, o, us, n, rfl, e1, e2, e3⟩ := h' v hv
    cases r with
    | @tuple l o' us' n' _ _ b1 b2 b3 b4 =>
      rw [e1] at b1
      cases b1
      rw [e2] at b3
      cases b3
      have z : us.toList.length = xs.length := SeqAt.ReadsAll.length _ _ _ b4
      rw [Array.length_toList] at z
      match xs, z with
      | [], z => exact absurd z e3
      | x :: r, _ => exact ⟨x, r, rfl⟩
  by_cases z0 : xs0.size = 0
  · refine ⟨keys, oneType', kindly _ (.inr rfl), fun _ E Q hq => ?_⟩
    rw [kat_kind_eq, List.mapM_toArray, map_eq_pure_bind, List.mapM_cons]
    refine wpAny_bind (wpAny_bind (wpAny_bind ?_))
    rw [kas_first_eq]
    refine wpAny_bind (Looks.here (show Looks (model prog w) s.heap (typeOf (.ref a0)) o0.cls from (Looks.ld q1).andThen .now) ?_)
    rw [q2, if_neg (by first | decide | simp)]
    refine wpAny_bind (listItems_at q1 q3 (wpAny_pure ?_))
    have n0' : xs0[0]? = none := by rw [Array.getElem?_eq_none]; omega
    rw [n0']
    refine wpAny_bind (firsts rest (fun u hu => tv u (List.mem_cons_of_mem _ hu)) fun fs l1 l2 => wpAny_pure (wpAny_pure ?_))
    rw [if_neg (by simp), if_neg (by simp)]
    rw [oneTypeOnly'_eq, List.mapM_toArray, map_eq_pure_bind]
    refine wpAny_bind (wpAny_bind (wpAny_bind (kas_mapM (r := Value.type "tuple") _ (fun v hv Q' hq' => ?_) (wpAny_pure ?_))))
    · obtain ⟨a, o, xs, n, rfl, e1, e2, e3⟩ := tv v hv
      exact Looks.here (show Looks (model prog w) s.heap (typeOf (.ref a)) (Value.type "tuple") from e2 ▸ (Looks.ld e1).andThen .now) hq'
    · have z1 : ((Value.ref a0 :: rest).map fun _ => Value.type "tuple").toArray[0]? = some (Value.type "tuple") := by simp
      rw [z1]
      have z2 : (((Value.ref a0 :: rest).map fun _ => Value.type "tuple").toArray.all fun x => x == Value.type "tuple") = true := by
        simp only [List.all_toArray, List.all_map, List.all_eq_true]
        intro _ _
        exact beq_self_eq_true _
      simp only [z2, if_true]
      exact wpAny_pure (wpAny_pure hq)
  · refine ⟨keys, general', kindly _ (.inl rfl), fun _ E Q hq => ?_⟩
    rw [kat_kind_eq, List.mapM_toArray, map_eq_pure_bind]
    refine wpAny_bind (wpAny_bind ?_)
    rw [List.mapM_cons]
    refine wpAny_bind ?_
    rw [kas_first_eq]
    refine wpAny_bind (Looks.here (show Looks (model prog w) s.heap (typeOf (.ref a0)) o0.cls from (Looks.ld q1).andThen .now) ?_)
    rw [q2, if_neg (by first | decide | simp)]
    refine wpAny_bind (listItems_at q1 q3 (wpAny_pure ?_))
    obtain ⟨f, hf⟩ : ∃ f, xs0[0]? = some f := ⟨xs0[0]'(by omega), Array.getElem?_eq_getElem _⟩
    rw [hf]
    refine wpAny_bind (firsts rest (fun u hu => tv u (List.mem_cons_of_mem _ hu)) fun fs l1 l2 => wpAny_pure (wpAny_pure ?_))
    have na := notall (some f :: fs) fun z v hv => by
      rw [List.all_cons, Bool.and_eq_true] at z
      rcases List.mem_cons.mp hv with e | e
      · exact ⟨a0, o0, xs0, n0, e, q1, q3, z0⟩
      · exact l2 z.2 v e
    rw [if_neg (by simpa using na), if_pos (by simp)]
    exact wpAny_pure hq
end
end NSet
/-! the set comprehension, whatever is put in; sets of nested keys and of texts -/
namespace NSet
open PySem PySem.Spec PyProof.Rows L2 PySem.W ND
set_option autoImplicit false
abbrev freshSet (w : World) : Obj := { cls := .type "set", dict := none, data := .set #[] 0 (.fresh 0 0 (!w.params.followText "set-order")) }
/-- what putting y into the set at D asks, N is what must hold behind it -/
abbrev PutR : Type := Addr → V → Hp → (Hp → Prop) → Prop
def Adds (P : Program) (w : World) (K : PySem.W.Frag) (put : PutR) : Prop := ∀ {Y : Cx} {pins : List (Addr × Obj)} {σ : L2.St} {H : Hp} {s : Shared} {E : Value → Shared → Prop} {D : Addr} {y : V} {v : Value} {N : Hp → Prop} {Q : Value → Shared → Prop},
  Y.prog = P → Y.w = w → Y.K = K → Y.A.units + 16 < cLine → Inv Y pins σ H s → RelV y v → put D y H N → (∀ s' H', Inv Y pins σ H' s' → N H' → Q .none s') → wpAny (model P w) Y.A (call (.builtin "set.add") [.ref D, v]) Q E s
def News1 (P : Program) (w : World) (so : Addr → HO) : Prop := ∀ (H : Hp) (h : Heap) (D : Addr), h.get? D = some (freshSet w) → ObjOk P w H h D (so D)
def TurnS (put : PutR) (D : Addr) (g : TG) (tt : TT) (te : TE) (vs : List Nat) (σ : L2.St) (Nx : Hp → Prop) (x : V) (H : Hp) : Prop :=
  g x (wipe σ vs) H fun σ2 H2 => wipe σ2 vs = wipe σ vs ∧ tt σ2 H2 fun b H3 => if b = true then te σ2 H3 fun y H4 => put D y H4 Nx else Nx H3
def tSc (so : Addr → HO) (put : PutR) (wi : TI) (g : TG) (tt : TT) (te : TE) (vs : List Nat) : TE := fun σ H Q => wi σ H fun J H1 =>
  ∀ D, H1 D = none → ∃ W : Nat → Nat → Hp → Prop, (∃ m, W 0 m (upd H1 D (so D))) ∧ ∀ i m H, W i m H →
    (J.stop i H ∧ Q (.ref D) H) ∨ (J.go i H ∧ ∃ Nx : Hp → Prop, (∀ H', Nx H' → ∃ m', m' < m ∧ W (i + 1) m' H') ∧ ∀ x H', J.yld i H x H' → TurnS put D g tt te vs σ Nx x H')
section
variable {X : Cx}
theorem turnS {Y : Cx} {put : PutR} (ad : Adds Y.prog Y.w Y.K put) {pins : List (Addr × Obj)} {ex tg : PySem.Expr} {ifs : List PySem.Expr} {g : TG} {tt : TT} {te : TE} {vs : List Nat} {σ : L2.St} {D : Addr} {Nx : Hp → Prop} {x : V} {u : Value} {s : Shared} {H : Hp}
    {m : Nat} {Iv : Nat → Shared → Prop} {E : Value → Shared → Prop} (hx : ∀ v s, Y.xe v s → False) (hu : Y.A.units + 16 < cLine) (pg : PG Y tg g) (pt : PTs Y ifs tt) (pe : PE Y ex te)
    (I : Inv Y pins (wipe σ vs) H s) (rx : RelV x u) (q : TurnS put D g tt te vs σ Nx x H)
    (fin : ∀ σ' s' H', wipe σ' vs = wipe σ vs → Inv Y pins σ' H' s' → Nx H' → ∃ j, j < m ∧ Iv j s') :
    wpAny (model Y.prog Y.w) Y.A (assign tg Y.env u) (fun _ t1 =>
      wpAny (model Y.prog Y.w) Y.A (forIn ifs true fun c r => if r = true then do let ok ← isTrue c Y.env (eval c Y.env); pure (ForInStep.yield ok) else pure (ForInStep.yield r)) (fun ok t2 =>
        if ok = true then wpAny (model Y.prog Y.w) Y.A (eval ex Y.env) (fun v t3 => wpAny (model Y.prog Y.w) Y.A (call (.builtin "set.add") [.ref D, v]) (fun _ t5 => ∃ j, j < m ∧ Iv j t5) E t3) E t2
        else ∃ j, j < m ∧ Iv j t2) E t1) E s := by
  refine calmE hx (pg.run _ s _ H x u _ I rx q) fun _ t1 ⟨σ1, H1, I1, w1, q1⟩ => ?_
  refine calmE hx (pt.run _ t1 σ1 H1 _ I1 q1) fun b t2 ⟨H2, I2, q2⟩ => ?_
  cases b
  · exact fin σ1 t2 H2 w1 I2 q2
  · refine calmE hx (pe.run _ t2 σ1 H2 _ I2 q2) fun kv t3 ⟨y, H3, I3, ry, q3⟩ => ?_
    exact ad rfl rfl rfl hu I3 ry q3 fun t5 H5 I5 nx => fin σ1 t5 H5 w1 I5 nx
theorem pe_sc {so : Addr → HO} {put : PutR} (ad : Adds X.prog X.w X.K put) (nw : News1 X.prog X.w so) {ex tg iter : PySem.Expr} {ifs : List PySem.Expr} {scope : Scope} {own : List (Str × Nat)} {pos : Pos} {wi : TI} {g : TG} {tt : TT} {te : TE}
    (hu : X.A.units + 16 < cLine) (hc : X.calm = true) (hN : X.N.Nodup) (hi : PI X tg iter wi) (ok : BlkOk X.N X.env.scope scope own)
    (hg : InBlk X scope fun Y => PG Y tg g) (ht : InBlk X scope fun Y => PTs Y ifs tt) (he : InBlk X scope fun Y => PE Y ex te)
    (hs : ∀ x, foldedSetIterable iter X.env x = pure x := by intro _; rfl) :
    PE X (.SetComp ex [⟨tg, iter, ifs, 0⟩] scope pos) (tSc so put wi g tt te (own.map (·.2))) := by
  refine ⟨fun pins s σ H Q I h => ?_⟩
  rw [PpSet.eval_SetComp]
  have frees : ∀ y ∈ scope.names, y.2 = .free → ∃ c, X.env.cells.lookup y.1 = some c := fun y hy e =>
    (ok.free y hy e).elim (fun k => I.ok.has _ (.inl k)) (fun k => I.ok.has _ (.inr k))
  refine wpAny_comprehension_free (use := none) rfl hs (closure_ok frees) ok.kind (fun y hy e => (ok.uniq y hy).trans (congrArg some e)) ?_
  refine thn (hi.run pins s σ H _ I h) fun xv s1 hx => thn hx fun itv s2 ⟨it, fp, tn, J, H2, e, I2, T, st2, f2, q⟩ => ?_
  subst e
  refine PpSet.newSet_ok (newEnv_comp ?_)
  obtain ⟨nd, end_⟩ : ∃ d : Obj, d = { cls := .type "set", dict := none, data := .set #[] 0 (.fresh 0 0 (!X.w.params.followText "set-order")) } := ⟨_, rfl⟩
  rw [← end_]
  obtain ⟨s3, e3⟩ : ∃ t : Shared, t = { s2 with heap := s2.heap.push nd } := ⟨_, rfl⟩
  obtain ⟨D, eD⟩ : ∃ D, D = s2.heap.objs.size := ⟨_, rfl⟩
  have hp3 : s3.heap = s2.heap.push nd := by rw [e3]
  have gone : H2 D = none := I2.hok.fresh (Nat.le_of_eq eD.symm)
  obtain ⟨W, ⟨m0, w0⟩, turn⟩ := q D gone
  have I3 : Inv X pins σ (upd H2 D (so D)) s3 := by
    rw [e3]
    refine I2.laid (t' := s2.toks) (fun b o e => Heap.get?_push_of_some _ e) (Nat.le_of_eq eD.symm) ?_
    refine nw _ _ _ ?_
    rw [eD, end_]
    exact Heap.get?_push_size _ rfl
  have low : ∀ b ∈ fp, b < D := fun b hb => by
    obtain ⟨o, e, _⟩ := T.obj _ _ st2 b hb
    rw [eD]
    exact Heap.lt_size e
  have f3 : ∀ b ∈ fp, FpOk X pins (upd H2 D (so D)) b ∧ b < s3.heap.objs.size := fun b hb => by
    have lt := low b hb
    refine ⟨⟨(upd_ne (Nat.ne_of_lt lt)).trans (f2 b hb).1, (f2 b hb).2⟩, ?_⟩
    rw [hp3, Heap.size_push, ← eD]
    exact Nat.lt_succ_of_lt lt
  have st3 : tn 0 s3.heap := T.keep _ _ _ st2 fun b _ o e => by
    rw [hp3]
    exact Heap.get?_push_of_some _ e
  have I4 := block_start I3 ok hN f3
  have none3 : ∀ b ∈ fp, (upd H2 D (so D)) b = none := fun b hb => (f3 b hb).1.1
  obtain ⟨C, eC⟩ : ∃ C, C = s3.heap.objs.size := ⟨_, rfl⟩
  obtain ⟨cl, ecl⟩ : ∃ cl, cl = cellsFrom (s3.heap.objs.size + 1) scope.names (cloFrom X.env.cells scope.names []) := ⟨_, rfl⟩
  obtain ⟨ev, eev⟩ : ∃ ev, ev = compEnvC scope cl C X.env := ⟨_, rfl⟩
  have atC : ev.locals = s3.heap.objs.size := by
    rw [eev, ← eC]
    rfl
  have pg := hg s3 (upd H2 D (so D)) C cl fp
  have pt := ht s3 (upd H2 D (so D)) C cl fp
  have pe := he s3 (upd H2 D (so D)) C cl fp
  rw [← eev] at pg pt pe
  rw [← ecl, ← eC, ← eev] at I4
  have goal : codeAny (model X.prog X.w) X.A (.compStart (.SetComp ex [⟨tg, iter, ifs, 0⟩] scope pos) 0 (.ref it) (.ref D) ev) (compPost (model X.prog X.w) X.A X.xe none (EP X pins σ Q) (.ref D) C) { s3 with heap := pushCells (s3.heap.push { cls := .type "dict", data := .dict #[] }) scope.names } := ?_
  · rw [eev, ecl, eC, e3, eD] at goal
    exact goal
  generalize hH3 : upd H2 D (so D) = H3 at I3 I4 pg pt pe w0 none3 f3
  generalize hs4 : ({ s3 with heap := pushCells (s3.heap.push { cls := .type "dict", data := .dict #[] }) scope.names } : Shared) = s4 at I4 ⊢
  have st4 : tn 0 s4.heap := T.keep _ _ _ st3 fun b _ o e => by
    rw [← hs4]
    exact pushCells_keeps _ _ _ _ (Heap.get?_push_of_some _ e)
  have quiet : ∀ v s, (X.blk s3 H3 scope ev fp).xe v s → False := fun _ _ z => z
  have keeps : ∀ {σ' : L2.St} {H' : Hp} {s' : Shared}, Inv (X.blk s3 H3 scope ev fp) [] σ' H' s' → (∀ b ∈ fp, H' b = none) → ∀ b ∈ fp, FpOk (X.blk s3 H3 scope ev fp) [] H' b :=
    fun {σ' H' s'} J' nb b hb => ⟨nb b hb, (J'.ok.exf b hb).1, J'.ok.exfs b hb, .inl hb, fun x c e => (J'.ok.exf b hb).2 x c e, fun p hp => (by simp at hp : False).elim⟩
  have loop : codeAny (model X.prog X.w) X.A (.compLoop (.SetComp ex [⟨tg, iter, ifs, 0⟩] scope pos) 0 (.ref it) (.ref D) ev) (compPost (model X.prog X.w) X.A X.xe none (EP X pins σ Q) (.ref D) C) s4 := by
    refine PpSet.compLoopS_any (fun n t => ∃ i G, Inv (X.blk s3 H3 scope ev fp) [] (wipe σ (own.map (·.2))) G t ∧ tn i t.heap ∧ (∀ b ∈ fp, G b = none) ∧ W i n G) ?_ m0 ⟨0, H3, I4, st4, none3, w0⟩
    rintro n s5 ⟨i, G, I5, st5, n5, w5⟩
    rcases turn i n G w5 with ⟨stop, done⟩ | ⟨go, Nx, down, step⟩
    · refine thnF (T.done (X.blk s3 H3 scope ev fp) rfl rfl rfl hc i [] s5 _ G (fun _ _ => False) I5 (keeps I5 n5) st5 stop) fun r s6 ⟨er, I6⟩ => ?_
      subst er
      have I7 : Inv X pins σ G s6 := I3.call' (ch := fp) I6.os I6.base I6.hok I6.bare fun b hb =>
        let z := (f3 b hb).1.2
        ⟨z.2.2.1, z.1, z.2.2.2.1, z.2.2.2.2⟩
      have nC : G s3.heap.objs.size = none := atC ▸ (show G ev.locals = none from I6.free)
      obtain ⟨mm, ns, _⟩ := I6.loc
      have ns : s6.heap.Ns C mm := by
        rw [eC, ← atC]
        exact ns
      obtain ⟨z0, z1, _, z3, z4, z5⟩ := I3.fpOk (Nat.le_refl _) nC
      rw [← eC] at z0 z1 z3 z4 z5
      exact ⟨mm, ns, fun h2 sb => ⟨.ref D, G, I7.turned (t' := s6.toks) (fun b o hb e => (sb.2 b hb).trans e) z0 z1 z3 z4 z5, rfl, done⟩⟩
    · refine thnF (T.item (X.blk s3 H3 scope ev fp) rfl rfl rfl hc i [] s5 _ G (fun _ _ => False) I5 (keeps I5 n5) st5 go) fun r s6 ⟨u, er, h6⟩ => ?_
      subst er
      refine thnF h6 fun _ s7 ⟨x, H7, I7, r7, y7, st7, n7⟩ => ?_
      refine turnS (Y := X.blk s3 H3 scope ev fp) ad (Iv := fun n t => ∃ i G, Inv (X.blk s3 H3 scope ev fp) [] (wipe σ (own.map (·.2))) G t ∧ tn i t.heap ∧ (∀ b ∈ fp, G b = none) ∧ W i n G) quiet hu pg pt pe (I7.pinned (keeps I7 n7) (T.obj _ _ st7)) r7 (step x H7 y7) fun σ' s' G' ww Jv nx => ?_
      obtain ⟨j, lt, w'⟩ := down G' nx
      have pin : ∀ b ∈ fp, ∀ o, s7.heap.get? b = some o → s'.heap.get? b = some o ∧ G' b = none := fun b hb o e =>
        have z := Jv.pin (b, o) (List.mem_append_right _ (List.mem_append_right _ (mem_pinsAt hb e)))
        ⟨z.1, z.2.1⟩
      refine ⟨j, lt, i + 1, G', (Jv.unpinned (pins := [])).weak ?_ fun l v e => ?_, T.keep _ _ _ st7 fun b hb o e => (pin b hb o e).1, fun b hb => ?_, w'⟩
      · rw [← ww, wipe_length]
      · rw [← ww] at e
        exact (wipe_some e).1
      · obtain ⟨o, e, _⟩ := T.obj _ _ st7 b hb
        exact (pin b hb o e).2
  exact PpSet.codeAny_compStart_set loop (T.self X.A 0 _ _ _ st4 loop)
end
/-- by a walk -/
theorem sc_it {so : Addr → HO} {put : PutR} {J : It} {n : Nat} {G : Hp → Prop} {Y : Nat → Hp → V → Hp → Prop} (w : L2.Walk J n G Y) {g : TG} {tt : TT} {te : TE} {vs : List Nat} {σ : L2.St} {H1 : Hp} {D : Addr} {Qd : Hp → Prop}
    (Pv : Nat → Hp → Prop) (h0 : Pv 0 (upd H1 D (so D))) (hG : ∀ i H, i ≤ n → Pv i H → G H) (hs : ∀ i x H H', i < n → Pv i H → Y i H x H' → TurnS put D g tt te vs σ (Pv (i + 1)) x H') (hd : ∀ H, Pv n H → Qd H) :
    ∃ W : Nat → Nat → Hp → Prop, (∃ m, W 0 m (upd H1 D (so D))) ∧ ∀ i m H, W i m H →
      (J.stop i H ∧ Qd H) ∨ (J.go i H ∧ ∃ Nx : Hp → Prop, (∀ H', Nx H' → ∃ m', m' < m ∧ W (i + 1) m' H') ∧ ∀ x H', J.yld i H x H' → TurnS put D g tt te vs σ Nx x H') := by
  refine ⟨fun i m H => i ≤ n ∧ m = n - i ∧ Pv i H, ⟨n, Nat.zero_le _, rfl, h0⟩, ?_⟩
  rintro i m H ⟨hi, rfl, p⟩
  rcases Nat.lt_or_eq_of_le hi with lt | e
  · exact .inr ⟨w.goes i H lt (hG i H hi p), Pv (i + 1), fun H' p' => ⟨n - (i + 1), by omega, lt, rfl, p'⟩, fun x H' y => hs i x H H' lt p (w.yields i H x H' lt (hG i H hi p) y)⟩
  · subst e
    exact .inl ⟨w.stops H (hG i H hi p), hd H p⟩
end NSet
/-! sets of nested keys and of texts, put by a comprehension; sorted(set of nested keys) -/
namespace NSet
open PySem PySem.Spec PyProof.Rows L2 PySem.W ND
set_option autoImplicit false
/-- the set at a, without what is known of the keys themselves -/
def N0 (w : World) (g : Heap) (a : Addr) (L : List KIt) : Prop := ∃ (r : Array (Int × Value)) (n : Nat) (T : SetTable), (∃ o, g.get? a = some o ∧ o.ExactSet ∧ o.data = .set r n T) ∧ r.toList = rows1 w L ∧ TabOk T (hashs w L) ∧ (L.map (·.2)).Nodup ∧
  (w.params.followText "set-order" = true ∨ T.led = true) ∧ L.length * 5 < T.mask * 3 ∧ L.length < 64
theorem NS.n0 {w : World} {g : Heap} {a : Addr} {L : List KIt} {r : Array (Int × Value)} {n : Nat} {T : SetTable} (R : NS w g a L r n T) : N0 w g a L := ⟨r, n, T, R.ob, R.rw, R.tb, R.nd, R.ld, R.rm, R.fw⟩
theorem N0.full {w : World} {g : Heap} {a : Addr} {L : List KIt} (R : N0 w g a L) (k : ∀ z ∈ L, KeyAt g z) : ∃ r n T, NS w g a L r n T := by
  obtain ⟨r, n, T, h1, h2, h3, h4, h5, h6, h7⟩ := R
  exact ⟨r, n, T, h1, h2, h3, h4, k, h5, h6, h7⟩
def SetO (w : World) (a : Addr) (L : List KIt) : HO := .ext fun g => N0 w g a L
theorem setO_new {w : World} {P : Program} {H : Hp} {h : Heap} {a : Addr} {L : List KIt} (R : N0 w h a L) : ObjOk P w H h a (SetO w a L) := by
  have ⟨r, n, T, ⟨o, ho, x⟩, q⟩ := R
  refine ⟨R, ⟨o, ho⟩, fun h1 h2 p k => ?_⟩
  have ⟨r', n', T', ⟨o', ho', x'⟩, q'⟩ := (show N0 w h1 a L from p)
  exact ⟨r', n', T', ⟨o', k o' ho', x'⟩, q'⟩
theorem setO_fresh (P0 : Program) (w : World) : News1 P0 w fun D => SetO w D [] := fun H h D e => setO_new ⟨#[], 0, _, ⟨_, e, ⟨rfl, rfl, rfl⟩, rfl⟩, rfl,
  ⟨List.Pairwise.nil, rfl, rfl, .inl rfl, fun x hx => (by cases hx), fun i h j hi => (by simp [hashs] at hi)⟩, List.nodup_nil, by
    show _ ∨ (!w.params.followText "set-order") = true
    cases w.params.followText "set-order"
    · exact .inr rfl
    · exact .inl rfl, by show 0 * 5 < 7 * 3; decide, by show 0 < 64; decide⟩
def NKs1 (K : PySem.W.Frag) (H : Hp) (L : List KIt) : Prop := ∀ z ∈ L, NK K H z.2 (.ref z.1) ∧ z.2.depth ≤ 8
theorem NKs1.mono {K : PySem.W.Frag} {H H' : Hp} {L : List KIt} (h : NKs1 K H L) (m : ∀ b xs, SqT K H b xs → SqT K H' b xs) : NKs1 K H' L := fun z hz => ⟨NK.mono m _ _ (h z hz).1, (h z hz).2⟩
/-- a tuple that is a key goes into the set -/
def putN1 (w : World) (K : PySem.W.Frag) : PutR := fun D y H N => ∃ (b : Addr) (k : NestedKey) (L : List KIt), y = .ref b ∧ H D = some (SetO w D L) ∧ NKs1 K H L ∧ NK K H k (.ref b) ∧ k.depth ≤ 8 ∧ L.length + 1 < 64 ∧
  ∀ L', (k ∈ L.map (·.2) → L' = L) → (k ∉ L.map (·.2) → L'.Perm ((b, k) :: L)) → N (upd H D (SetO w D L'))
theorem adds_N (P : Program) (w : World) (K : PySem.W.Frag) : Adds P w K (putN1 w K) := by
  intro Y pins σ H s E D y v N Q e1 e2 e3 hu I rv ⟨b, k, L, ey, hD, oks, key, dep, few, nx⟩ q
  subst e1 e2 e3 ey
  obtain rfl : v = Value.ref b := rv
  have R0 : N0 Y.w s.heap D L := (I.hok D _ hD).1
  obtain ⟨r, n, T, R⟩ := R0.full fun z hz => ⟨nk_is I _ _ _ (oks z hz).1 rfl, (oks z hz).2⟩
  have hz : KeyAt s.heap (b, k) := ⟨nk_is I _ _ _ key rfl, dep⟩
  have tS : s.TypeIs (.ref D) "set" := by
    obtain ⟨o, ho, hx, _⟩ := R.ob
    exact ⟨o, ho, hx.1⟩
  refine wpAny_call_entry F.slot_set_add tS F.entry_set_add ?_ (F.args_set_add_2 _ _)
  unfold Builtin.«set.add» Builtin.Frozenset.oneOther
  simp only [List.isEmpty_nil, bind_assoc]
  unfold Builtin.Frozenset.addrOf setAdd
  refine wpAny_bind (wpAny_pure ?_)
  try dsimp only
  refine wpAny_bind (wpAny_pure ?_)
  try dsimp only
  refine wpAny_bind ?_
  refine wpAny_holding ?_
  have u1 : Y.A.in1.units ≤ Y.A.units + 1 := by first | exact Nat.le_refl _ | simp [Around.in1]
  refine wpAny_bind (pyHash_key k _ _ _ _ hz.1 (by omega) ?_)
  refine put_it (s := { s with toks := s.toks + k.draws }) (R.up fun _ _ e => e) (z := (b, k)) hz (by omega) few fun c g' L' r' n' T' sb R' c1 c2 => ?_
  show wpAny _ _ (ret Value.none) _ _ _
  refine wpAny_pure ⟨_, rfl, ?_⟩
  have he : ∃ u, g'.get? D = some u := by
    obtain ⟨o, ho, _⟩ := R'.ob
    exact ⟨o, ho⟩
  exact q _ _ (I.write (e := D) (t' := s.toks + k.draws) (by rw [hD]; trivial) (.inl rfl) (fun b u hb hu => (sb.2 b hb).trans hu) he (setO_new R'.n0)) (nx L' c1 c2)
/-! ### texts -/
theorem setTx_fresh (P : Program) (w : World) : News1 P w fun D => TX.SetTx P w D [] := fun H h D e => TX.setTx_new ⟨(#[], 0, .fresh 0 0 (!w.params.followText "set-order")), e, ⟨Froz.TxOk.nil rfl, List.Pairwise.nil, by
    show _ ∨ (!w.params.followText "set-order") = true
    cases w.params.followText "set-order"
    · exact .inr rfl
    · exact .inl rfl, List.nodup_nil⟩⟩
def putTx (P : Program) (w : World) : PutR := fun D y H N => ∃ (x : Str) (l : List Str), y = .str x ∧ H D = some (TX.SetTx P w D l) ∧ l.length + 1 < scanBound ∧ (x ∈ l → N H) ∧ (x ∉ l → N (upd H D (TX.SetTx P w D (x :: l))))
theorem adds_Tx (P : Program) (w : World) (K : PySem.W.Frag) : Adds P w K (putTx P w) := by
  intro Y pins σ H s E D y v N Q e1 e2 e3 hu I rv ⟨x, l, ey, hD, few, n1, n2⟩ q
  subst e1 e2 e3 ey
  obtain ⟨t, rfl⟩ : ∃ t, v = Value.str x t := rv
  have R0 : TX.At Y.prog Y.w s.heap D l := (I.hok D _ hD).1
  obtain ⟨B, hB, ok⟩ := id R0
  refine wpAny_call_entry F.slot_set_add ⟨_, hB, rfl⟩ F.entry_set_add ?_ (F.args_set_add_2 _ _)
  unfold Builtin.«set.add» Builtin.Frozenset.oneOther
  simp only [List.isEmpty_nil, bind_assoc]
  unfold Builtin.Frozenset.addrOf setAdd
  refine wpAny_bind (wpAny_pure ?_)
  try dsimp only
  refine wpAny_bind (wpAny_pure ?_)
  try dsimp only
  refine wpAny_bind ?_
  refine wpAny_holding ?_
  refine wpAny_bind ((strKind Y.prog Y.w).pyHash (Froz.is_str x t) ?_)
  by_cases m : x ∈ l
  · refine TX.add_old (s := { s with toks := s.toks + 1 }) hB ok.tx m (by omega) ?_
    show wpAny _ _ (ret Value.none) _ _ _
    exact wpAny_pure ⟨_, rfl, q _ _ (I.kept (t' := s.toks + 1) fun _ _ e => e) (n1 m)⟩
  · refine Froz.add_x (s := { s with toks := s.toks + 1 }) hB ok.tx m (by omega) ?_
    show wpAny _ _ (ret Value.none) _ _ _
    refine wpAny_pure ⟨_, rfl, q _ _ ?_ (n2 m)⟩
    have hg : (s.heap.update D (fun _ => Froz.sObj "set" (Froz.addTx (hashStr Y.w x) (.str x t) B))).get? D = some (Froz.sObj "set" (Froz.addTx (hashStr Y.w x) (.str x t) B)) := Froz.get_upd _ hB rfl
    refine I.write (e := D) (t' := s.toks + 1) (by rw [hD]; trivial) (.inl rfl) (fun b u hb hu => ?_) ⟨_, hg⟩ (TX.setTx_new ⟨_, hg, ok.add t m⟩)
    exact (Heap.get?_update_ne _ _ _ _ hb).trans hu
/-! ### sorted -/
mutual
theorem data_depth : ∀ k : NestedKey, k.data.depth = k.depth
  | .none => by simp [NestedKey.data, NestedKey.depth, PyData.depth]
  | .num i => by simp [NestedKey.data, NestedKey.depth, PyData.depth]
  | .text x => by simp [NestedKey.data, NestedKey.depth, PyData.depth]
  | .tup ks => by
    rw [NestedKey.data, NestedKey.depth, PyData.depth, datas_depth ks]
theorem datas_depth : ∀ ks : List NestedKey, PyData.depthAll (NestedKey.datas ks) = NestedKey.depthAll ks
  | [] => by simp [NestedKey.datas, NestedKey.depthAll, PyData.depthAll]
  | k :: ks => by rw [NestedKey.datas, NestedKey.depthAll, PyData.depthAll, data_depth k, datas_depth ks]
end
section
variable {X : Cx}
theorem refs_perm {L : List KIt} (inj : ∀ y ∈ L, ∀ z ∈ L, y.1 = z.1 → y = z) (nd : L.Nodup) : ∀ vs : List Value, vs.Perm (L.map fun z => Value.ref z.1) → ∃ M : List KIt, vs = M.map (fun z => Value.ref z.1) ∧ M.Perm L := by
  intro vs pm
  have ex : ∀ us : List Value, (∀ u ∈ us, ∃ z ∈ L, u = Value.ref z.1) → ∃ M : List KIt, us = M.map (fun z => Value.ref z.1) ∧ ∀ z ∈ M, z ∈ L := by
    intro us
    induction us with
    | nil => exact fun _ => ⟨[], rfl, fun z h => nomatch h⟩
    | cons u us ih =>
      intro h
      obtain ⟨z, hz, e⟩ := h u List.mem_cons_self
      obtain ⟨M, e1, s1⟩ := ih fun x hx => h x (List.mem_cons_of_mem _ hx)
      refine ⟨z :: M, by rw [List.map_cons, e, e1], fun y hy => ?_⟩
      rcases List.mem_cons.mp hy with q | q
      · rw [q]
        exact hz
      · exact s1 y q
  obtain ⟨M, e, sub⟩ := ex vs fun u hu => by
    obtain ⟨z, hz, q⟩ := List.mem_map.mp (pm.mem_iff.mp hu)
    exact ⟨z, hz, q.symm⟩
  refine ⟨M, e, ?_⟩
  rw [e] at pm
  have nL : (L.map fun z => Value.ref z.1).Nodup := List.pairwise_map.mpr (List.Pairwise.imp_of_mem (fun {y z} hy hz ne q => ne (inj y hy z hz (by injection q))) nd)
  have nM : M.Nodup := List.Pairwise.of_map (fun z : KIt => Value.ref z.1) (fun _ _ ne q => ne (congrArg (fun z : KIt => Value.ref z.1) q)) (pm.nodup_iff.mpr nL)
  refine (List.perm_ext_iff_of_nodup nM nd).mpr fun z => ⟨sub z, fun hz => ?_⟩
  obtain ⟨y, hy, q⟩ := List.mem_map.mp (pm.mem_iff.mpr (List.mem_map.mpr ⟨z, hz, rfl⟩))
  rw [← inj y (sub y hy) z hz (by injection q)]
  exact hy
theorem refs_vals : ∀ M : List KIt, Vals (M.map fun z => V.ref z.1) (M.map fun z => Value.ref z.1)
  | [] => .nil
  | _ :: M => .cons rfl (refs_vals M)
def RefOf (u : Value) (z : KIt) : Prop := u = .ref z.1
theorem refs_each : ∀ M : List KIt, EachIs RefOf (M.map fun z => Value.ref z.1) M
  | [] => .nil
  | _ :: M => .cons rfl (refs_each M)
theorem each_out : ∀ {us : List Value} {M : List KIt}, EachIs RefOf us M → Vals (M.map fun z => V.ref z.1) us
  | _, _, .nil => .nil
  | _, _, .cons h r => .cons h (each_out r)
abbrev leN (y z : KIt) : Bool := dataLe false (fun z : KIt => z.2.data) y z
/-- sorted(a set of nested keys) -/
def rSortN (K : PySem.W.Frag) (w : World) : List V → Hp → VK → Prop := fun vs H Q => ∃ (a : Addr) (L : List KIt), vs = [V.ref a] ∧ H a = some (SetO w a L) ∧ NKs1 K H L ∧ (∀ y ∈ L, ∀ z ∈ L, alike y.2.data z.2.data = true) ∧ (∀ z ∈ L, ∃ ks, z.2 = .tup ks) ∧
  ∀ (M : List KIt) (p : Addr), M.Perm L → (M.map (·.2)).Nodup → M.length < 64 → H p = none → Q (.ref p) (upd H p (.lst ((M.mergeSort leN).map fun z => V.ref z.1)))
theorem cr_sortN (hc : X.calm = true) (hu : X.A.units + 66 < cLine) : CallR X (.builtin "sorted") (rSortN X.K X.w) := by
  intro pins s σ H vs0 us Q I rv h
  obtain ⟨a, L, rfl, ha, oks, al, tp, q⟩ := h
  rw [Vals.ref1 rv]
  have R0 : N0 X.w s.heap a L := (I.hok a _ ha).1
  obtain ⟨r, n, T, R⟩ := R0.full fun z hz => ⟨nk_is I _ _ _ (oks z hz).1 rfl, (oks z hz).2⟩
  obtain ⟨o, ho, hx, hd⟩ := R.ob
  have rn := rows_len R.rw
  have fw := R.fw
  refine Calls.call_function_entry kind_sorted plain_sorted entry_sorted (args_sorted1 _) ?_
  unfold Builtin.«sorted»
  refine wpAny_bind (m := checkCount "sorted" 1 1 _) (wpAny_pure ?_)
  refine wpAny_bind (collect_set (A := X.A.in1) (I.ok.hd hc) ⟨o, ho, hx.1, hd⟩ R.fits (by unfold scanBound; omega) R.tb.ris R.ld fun s1 vs k1 hz g1 o1 pm => ?_)
  have hes : r.toList.map (·.2) = L.map fun z => Value.ref z.1 := by
    rw [R.rw]
    unfold rows1
    rw [List.map_map]
    rfl
  rw [hes] at pm
  obtain ⟨M, rfl, pM⟩ := refs_perm (fun y hy z hz e => (R.ky y hy).one (R.ky z hz) e) (List.Pairwise.of_map (fun z : KIt => z.2) (fun _ _ ne e => ne (congrArg _ e)) R.nd) vs pm
  have Ml : M.length < 64 := by rw [pM.length_eq]; exact fw
  have szl : (M.map fun z => Value.ref z.1).length ≤ sizeLine := by rw [List.length_map, sizeLine_eq]; omega
  refine wpAny_bind (wpAny_newList ?_ szl)
  have at0 : (s1.heap.push (seqObj "list" (M.map fun z => Value.ref z.1).toArray 0)).get? s1.heap.objs.size = some (seqObj "list" (M.map fun z => Value.ref z.1).toArray 0) := Heap.get?_push_size _ rfl
  have er : EachIs (fun v (z : KIt) => ∃ as, Reads (sortingHeap (s1.heap.push (seqObj "list" (M.map fun z => Value.ref z.1).toArray 0)) s1.heap.objs.size (M.map fun z => Value.ref z.1)) v z.2.data as) (M.map fun z => Value.ref z.1) M := by
    have gen : ∀ l : List KIt, (∀ z ∈ l, z ∈ M) → EachIs (fun v (z : KIt) => ∃ as, Reads (sortingHeap (s1.heap.push (seqObj "list" (M.map fun z => Value.ref z.1).toArray 0)) s1.heap.objs.size (M.map fun z => Value.ref z.1)) v z.2.data as) (l.map fun z => Value.ref z.1) l := by
      intro l
      induction l with
      | nil => exact fun _ => .nil
      | cons z l ih =>
        intro hl
        refine .cons ?_ (ih fun x hx => hl x (List.mem_cons_of_mem _ hx))
        obtain ⟨as, rd⟩ := Dp.reads I _ _ _ (NK.dp _ _ (oks z (pM.mem_iff.mp (hl z List.mem_cons_self))).1) rfl
        exact ⟨as, PyProof.Rows.Reads.keeps (fun b o e => sortingHeap_old (Nat.ne_of_lt (Heap.lt_size (k1 b o e))) (Heap.get?_push_of_some _ (k1 b o e))) rd⟩
    exact gen M fun _ h => h
  have alM : AllAlike (M.map fun z => z.2.data) := by
    intro d hd d' hd'
    obtain ⟨y, hy, rfl⟩ := List.mem_map.mp hd
    obtain ⟨z, hz, rfl⟩ := List.mem_map.mp hd'
    exact al y (pM.mem_iff.mp hy) z (pM.mem_iff.mp hz)
  have dpl : ∀ (z : KIt), z ∈ L → z.2.data.depth ≤ 9 := fun z hz => by
    have gen : ∀ k : NestedKey, k.data.depth = k.depth := fun k => data_depth k
    rw [gen]
    exact Nat.le_succ_of_le (oks z hz).2
  have un : ∀ x ∈ M.map (fun z => z.2.data), X.A.in1.in1.units + x.depth < cLine := by
    intro x hx
    obtain ⟨z, hz, rfl⟩ := List.mem_map.mp hx
    have := dpl z (pM.mem_iff.mp hz)
    have u1 : X.A.in1.in1.units ≤ X.A.units + 2 := by first | exact Nat.le_refl _ | simp [Around.in1]
    omega
  refine wpAny_bind (wpAny_holding (wpAny_call_entry slot_list_sort ⟨_, at0, rfl⟩ entry_list_sort
    (list_sort_vals (s := { s1 with heap := s1.heap.push (seqObj "list" (M.map fun z => Value.ref z.1).toArray 0) }) at0 (sorts_tups (s := { s1 with heap := sortingHeap (s1.heap.push (seqObj "list" (M.map fun z => Value.ref z.1).toArray 0)) s1.heap.objs.size (M.map fun z => Value.ref z.1) })
      (each_map (R := fun v x => ∃ as, Reads (sortingHeap (s1.heap.push (seqObj "list" (M.map fun z => Value.ref z.1).toArray 0)) s1.heap.objs.size (M.map fun z => Value.ref z.1)) v x as) (fun z : KIt => z.2.data) er) alM (fun d hd => ?_) un) szl ?_) (args_list_sort _)))
  · obtain ⟨z, hz, rfl⟩ := List.mem_map.mp hd
    obtain ⟨ks, e⟩ := tp z (pM.mem_iff.mp hz)
    rw [e]
    exact ⟨_, by rw [NestedKey.data]⟩
  have eo := sortVals_data false (refs_each M) er alM
  generalize sortVals (dataKind (sortingHeap (s1.heap.push (seqObj "list" (M.map fun z => Value.ref z.1).toArray 0)) s1.heap.objs.size (M.map fun z => Value.ref z.1)) (M.map fun z => z.2.data)) false (M.map fun z => Value.ref z.1) (M.map fun z => Value.ref z.1) = out at eo ⊢
  obtain ⟨c, hcc⟩ := PyProof.Rows.sortedHeap_at (vs := M.map fun z => Value.ref z.1) (out := out.toArray) at0
  have hn : H s1.heap.objs.size = none := I.hok.fresh hz
  have kk : ∀ b u, s.heap.get? b = some u → (PyProof.Rows.sortedHeap (s1.heap.push (seqObj "list" (M.map fun z => Value.ref z.1).toArray 0)) s1.heap.objs.size (M.map fun z => Value.ref z.1) out.toArray).get? b = some u := fun b u e => by
    have z := k1 b u e
    have lt := Heap.lt_size z
    rw [PyProof.Rows.sortedHeap_old (Nat.ne_of_lt lt) (by rw [size_push']; exact Nat.lt_succ_of_lt lt)]
    exact Heap.get?_push_of_some _ z
  have len : ((M.mergeSort leN).map fun z => V.ref z.1).length ≤ sizeLine := by rw [List.length_map, List.length_mergeSort, sizeLine_eq]; omega
  have J : Inv X pins σ (upd H s1.heap.objs.size (.lst ((M.mergeSort leN).map fun z => V.ref z.1))) { s with heap := PyProof.Rows.sortedHeap (s1.heap.push (seqObj "list" (M.map fun z => Value.ref z.1).toArray 0)) s1.heap.objs.size (M.map fun z => Value.ref z.1) out.toArray, gens := s1.gens, drawn := s1.drawn, toks := s1.toks } :=
    I.call (ch := []) (Un.laid kk hz hn) (I.hok.laid kk hz ⟨len, out, c, each_out eo, hcc⟩) (by rw [g1]; exact I.bare) (fun _ z => nomatch z)
  refine ⟨_, rfl, wpAny_pure ⟨_, rfl, ?_⟩⟩
  have e : (({ s1 with heap := PyProof.Rows.sortedHeap (s1.heap.push (seqObj "list" (M.map fun z => Value.ref z.1).toArray 0)) s1.heap.objs.size (M.map fun z => Value.ref z.1) out.toArray } : Shared)) = { s with heap := PyProof.Rows.sortedHeap (s1.heap.push (seqObj "list" (M.map fun z => Value.ref z.1).toArray 0)) s1.heap.objs.size (M.map fun z => Value.ref z.1) out.toArray, gens := s1.gens, drawn := s1.drawn, toks := s1.toks } := by
    cases s1
    cases s
    cases o1
    rfl
  rw [← e] at J
  exact ⟨.ref s1.heap.objs.size, _, J, rfl, q M _ pM ((pM.map (·.2)).nodup_iff.mpr R.nd) Ml hn⟩
end
end NSet
/-! x.replace(c, "..") where c is a sign of a text: what is known of c's token -/
namespace TKR
open PySem PySem.Spec PyProof.Rows L2
/-- the local i holds a text whose token is out and older than those to come -/
def Tk (X : Cx) (i : Nat) (σ : L2.St) (s : Shared) : Prop := ∃ x m y t, X.N[i]? = some x ∧ X.env.scope.names.lookup x = some .local ∧ s.heap.Ns X.env.locals m ∧ m x = some (.str y t) ∧ σ[i]? = some (some (.str y)) ∧ t ≠ 0 ∧ t < s.toks
section
variable {X : Cx} {pins : List (Addr × Obj)} {σ : L2.St} {H : Hp} {s : Shared}
theorem store_tk {M : Model} {A : Around} {E : Value → Shared → Prop} {i : Nat} {x y : Str} {t : Tok} {Q : Unit → Shared → Prop} (I : Inv X pins σ H s) (nd : X.N.Nodup) (hi : X.N[i]? = some x) (hk : X.env.scope.names.lookup x = some .local) (t0 : t ≠ 0) (ts : t < s.toks + 1)
    (fin : ∀ s', Inv X pins (σ.set i (some (.str y))) H s' → Tk X i (σ.set i (some (.str y))) s' → Q () s') : wpAny M A (storeName X.env x (.str y t)) Q E s := by
  obtain ⟨m, hn, lk⟩ := id I.loc
  have notc : (X.env.scope.kind == .class || (X.env.scope.kind == .module && X.env.locals != X.env.globals)) = false := by
    rw [I.ok.kind]
    rfl
  have il : i < σ.length := by
    rw [I.len]
    exact (List.getElem?_eq_some_iff.mp hi).1
  have ncell := I.cne
  refine wpAny_storeName_local hk hn (fun h' hn' sb => ?_) notc
  have σi : (σ.set i (some (V.str y)))[i]? = some (some (.str y)) := List.getElem?_set_self il
  have other : ∀ b, b ≠ X.env.locals → h'.get? b = s.heap.get? b := fun b ne => sb.2 b ne
  have below : ∀ {b : Addr} {o : Obj}, X.s_0.heap.get? b = some o → b ≠ X.env.locals := fun {b o} e =>
    Nat.ne_of_lt (Nat.lt_of_lt_of_le (Heap.lt_size e) I.ok.above)
  have B : Un X.fs X.ex X.H_0 H X.s_0.heap h' := by
    refine ⟨fun b o e n hb hx => ?_, fun b o e n hb hx => ?_, I.base.free, fun b o e hx => ?_, I.base.tups, I.base.frzs, I.base.tbls⟩
    · rw [other b (below e)]
      exact I.base.keep b o e n hb hx
    · obtain ⟨sl, q⟩ := I.base.slot b o e n hb hx
      exact ⟨sl, by rw [other b (below e)]; exact q⟩
    · obtain ⟨o', q⟩ := I.base.there b o e hx
      exact ⟨o', by rw [other b (below e)]; exact q⟩
  have L : ∃ m, h'.Ns X.env.locals m ∧ ∀ (j : Nat) (z : Str) (v : V), X.N[j]? = some z → (σ.set i (some (V.str y)))[j]? = some (some v) → Vis X.env.scope z → ∃ u, RelV v u ∧ Look X.env h' m z u := by
    refine ⟨_, hn', fun j z v e1 e2 e3 => ?_⟩
    by_cases q : j = i
    · subst q
      have ez : z = x := Option.some.inj (e1.symm.trans hi)
      subst ez
      have ev : v = V.str y := (Option.some.inj (Option.some.inj (e2.symm.trans σi)))
      subst ev
      exact ⟨.str y t, ⟨t, rfl⟩, .inl ⟨hk, if_pos rfl⟩⟩
    · rw [List.getElem?_set_ne (Ne.symm q)] at e2
      obtain ⟨u, ru, l⟩ := lk j z v e1 e2 e3
      refine ⟨u, ru, l.elim (fun a => .inl ⟨a.1, ?_⟩) (fun a => ?_)⟩
      · have nz : z ≠ x := fun e => q (nodup_ix nd e1 (by rw [e]; exact hi))
        show (if z = x then _ else m z) = _
        rw [if_neg nz]
        exact a.2
      · obtain ⟨a1, c, a2, a3⟩ := a
        exact .inr ⟨a1, c, a2, a3.sameBut sb (ncell z c a2)⟩
  have HO : HOk X.prog X.w H h' := fun b ob e => by
    have nb : b ≠ X.env.locals := fun z => by
      rw [z, I.free] at e
      cases e
    refine (I.hok b ob e).stay (fun c w' hc q => ?_) (fun _ q => q) fun _ _ q => q
    have nc : c ≠ X.env.locals := fun z => by
      rw [z] at hc
      rcases hc with hc | hc
      · exact nb hc.symm
      · rw [I.free] at hc
        cases hc
    rw [other c nc]
    exact q
  have J : Inv X pins (σ.set i (some (V.str y))) H { s with heap := h', toks := s.toks + 1 } :=
    ⟨I.ok, I.os, I.bare, B, L, fun z c e => (I.cell z c e).imp fun w' q => q.sameBut sb (ncell z c e), I.free, I.freeC, fun p hp => by
      obtain ⟨a, b, ne, c, d⟩ := I.pin p hp
      exact ⟨by show h'.get? p.1 = _; rw [other p.1 ne]; exact a, b, ne, c, d⟩, HO, by rw [List.length_set]; exact I.len⟩
  exact fin _ J ⟨x, _, y, t, hi, hk, hn', if_pos rfl, σi, t0, ts⟩
end
/-! expressions, arguments, statements that lean on it -/
def PEK (X : Cx) (i : Nat) (e : Expr) (te : TE) : Prop := ∀ (pins : List (Addr × Obj)) (s : Shared) (σ : L2.St) (H : Hp) (Q : VK), Tk X i σ s → Inv X pins σ H s → te σ H Q →
  wpAny (model X.prog X.w) X.A (eval e X.env) (EP X pins σ Q) X.xe s
def PSK (X : Cx) (i : Nat) (st : Stmt) (t : TS) : Prop := ∀ (pins : List (Addr × Obj)) (s : Shared) (σ : L2.St) (H : Hp) (D : Ends), Tk X i σ s → Inv X pins σ H s → t D σ H →
  wpAny (model X.prog X.w) X.A (exec st X.env) (SP X pins D) X.xe s
def PSsK (X : Cx) (i : Nat) (ss : List Stmt) (t : TS) : Prop := ∀ (pins : List (Addr × Obj)) (s : Shared) (σ : L2.St) (H : Hp) (D : Ends), Tk X i σ s → Inv X pins σ H s → t D σ H →
  wpAny (model X.prog X.w) X.A (execs ss X.env) (SP X pins D) X.xe s
section
variable {X : Cx} {i : Nat}
/-- x.replace(c, "z"), c the local i -/
def tRepK (ia i : Nat) (z : Str) : TE := fun σ H Q => ∃ x y, σ[ia]? = some (some (.str x)) ∧ σ[i]? = some (some (.str y)) ∧ (y == z) = false ∧ x.length + (x.length + 1) * z.length ≤ 16777216 ∧ Q (.str (Txt.replace x y z)) H
theorem pek_repl {ia : Nat} {ka kl z : Str} {j : Nat} {p1 p2 c0 apos pos : Pos} (na : X.N[ia]? = some ka) (va : Vis X.env.scope ka) (nl : X.N[i]? = some kl)
    (da : (ka == ("__debug__" : Str)) = false := by decide) (ca : (ka == ("__classdict__" : Str)) = false := by decide) (dl : (kl == ("__debug__" : Str)) = false := by decide)
    (hst : starEach [.Name kl p2, .Constant (.str z) j c0] X.env = [(false, eval (.Name kl p2) X.env), (false, eval (.Constant (.str z) j c0) X.env)] := by rfl)
    (hb : attributeBase (.Name ka p1) "replace" X.env (eval (.Name ka p1) X.env) = eval (.Name ka p1) X.env := by rfl) (hl : (apos.endLine == pos.line) = true := by rfl) :
    PEK X i (.Call (.Attribute (.Name ka p1) "replace" apos) [.Name kl p2, .Constant (.str z) j c0] [] pos) (tRepK ia i z) := by
  intro pins s σ H Q tk I h
  obtain ⟨x, y, hx, hy, yz, bd, q⟩ := h
  obtain ⟨x', m, y', t, e1, lo, ns, mx, e2, t0, ts⟩ := tk
  have ex : x' = kl := Option.some.inj (e1.symm.trans nl)
  subst ex
  have ey : y' = y := V.str.inj (Option.some.inj (Option.some.inj (e2.symm.trans hy)))
  subst ey
  refine PySem.Call_method2 hb hst hl (raw_name na va I hx (fun v r => ?_) da ca)
  obtain ⟨tx, rfl⟩ := r
  refine ⟨"str", _, F.plainAttrs_str, F.slot_str_replace, F.type_str_replace, typeIs_str _ _ _, (fun _ e => nomatch e), ?_⟩
  refine Calls.callWith_builtin rfl (Calls.evalArgs_plain ?_)
  refine Calls.spliced_cons (wpAny_Name (wpAny_loadName_local I.ok.kind lo ns mx ?_) dl)
  refine Calls.spliced_cons (Calls.Constant_str (Calls.spliced_nil ?_))
  exact SC.replace t0 (Nat.ne_of_gt (Nat.lt_of_le_of_lt (Nat.zero_le _) ts)) (Nat.ne_of_lt ts) yz bd fun t' k => ⟨.str (Txt.replace x y' z), H, I.tok k, ⟨t', rfl⟩, q⟩
theorem PEK.of {e : Expr} {te : TE} (h : PE X e te) : PEK X i e te := fun pins s σ H Q _ I q => h.run pins s σ H Q I q
/-- name op e -/
theorem pek_opN {a : Nat} {ka : Str} {pa pos : Pos} {op : Operator} {r : R2} {e : Expr} {te : TE} (ho : OpR X (binaryOp op) r) (na : X.N[a]? = some ka) (va : Vis X.env.scope ka) (he : PEK X i e te)
    (da : (ka == ("__debug__" : Str)) = false := by decide) (ca : (ka == ("__classdict__" : Str)) = false := by decide) : PEK X i (.BinOp (.Name ka pa) op e pos) (tOp r (tVar a) te) := by
  intro pins s σ H Q tk I h
  obtain ⟨v, hv, h⟩ := h
  refine wpAny_BinOp (raw_name na va I hv (fun u ru => ?_) da ca)
  exact thn (he pins s σ H _ tk I h) fun u2 s2 ⟨y, H2, I2, r2, q2⟩ => ho pins s2 σ H2 v y u u2 Q I2 ru r2 q2
/-- e op f -/
theorem pek_opL {op : Operator} {r : R2} {e f : Expr} {te tf : TE} {pos : Pos} (ho : OpR X (binaryOp op) r) (he : PEK X i e te) (hf : PE X f tf) : PEK X i (.BinOp e op f pos) (tOp r te tf) := by
  intro pins s σ H Q tk I h
  refine wpAny_BinOp (thn (he pins s σ H _ tk I h) fun u s1 ⟨x, H1, I1, r1, q1⟩ => ?_)
  exact thn (hf.run pins s1 σ H1 _ I1 q1) fun u2 s2 ⟨y, H2, I2, r2, q2⟩ => ho pins s2 σ H2 x y u u2 Q I2 r1 r2 q2
/-- f(e) -/
theorem pek_call {CX : CXT} {k : Nat} {f : Addr} {fd : FuncData} {ps : List Str} {sp : Sp} {x : Str} {ds : List Value} {dvs : List V} {E : XK} {e : Expr} {te : TE} {p pos : Pos}
    (G : FnOk X.prog X.w X.K X.mg X.base CX k f fd ps sp) (rm : Room k X.A) (hg : Gl X x) (hm : X.mg x = some (.ref f)) (kp : PySem.W.keepIn X.K (.ref f) = true) (hb : Binds X.K fd ps ds) (hd : Vals dvs ds) (hx : Passes CX X E)
    (he : PEK X i e te) (db : (x == ("__debug__" : Str)) = false := by decide) (h1 : starEach [e] X.env = [(false, eval e X.env)] := by rfl) (hpl : (backTo pos (starEach ([] : List Expr) X.env)).any (·.1) = false := by rfl) :
    PEK X i (.Call (.Name x p) [e] [] pos) (tCall sp dvs E (tCons te tNil)) := by
  intro pins s σ H Q tk I h
  refine wpAny_Call_Name_kw (ld_glob I hg hm ?_ db)
  have args : wpAny (model X.prog X.w) X.A (spliced (backTo pos (starEach [e] X.env))) (fun us s1 => X.K.In s1.heap ∧ ∃ vs H1, Inv X pins σ H1 s1 ∧ Vals vs us ∧ sp (vs ++ dvs) H1 Q E) X.xe s := by
    rw [h1]
    refine Calls.spliced_cons (thn (he pins s σ H _ tk I h) fun u s1 q => ?_)
    obtain ⟨y, H1, I1, r1, q1⟩ := q
    exact Calls.spliced_nil ⟨I1.kIn, [y], H1, I1, .cons r1 .nil, q1⟩
  refine PySem.W.callWith_K (h₀ := X.base) I.ok.mod.kin kp (thn args fun us s1 q => ⟨q.1, ?_⟩) h1 hpl
  obtain ⟨_, vs, H1, I1, r1, q1⟩ := q
  exact run_fn G rm hb hd hx I1 r1 q1
/-- name = e -/
theorem psk_set {a : Nat} {x : Str} {e : Expr} {te : TE} {pos' pos : Pos} (nd : X.N.Nodup) (na : X.N[a]? = some x) (lx : Loc X.env.scope x) (he : PEK X i e te) (sw : swapsWith e (some (.Name x pos')) pos.line X.env = pure false := by rfl)
    (hf : X.fn x = true ∨ X.env.scope.names.lookup x = some .local := by first | exact .inl rfl | exact .inr rfl | assumption) : PSK X i (.Assign [.Name x pos'] e pos) (tAsg te (gName a)) := by
  intro pins s σ H D tk I h
  refine wpAny_Assign_Name (thn (he pins s σ H _ tk I h) fun v s1 q => ?_) sw
  obtain ⟨y, H1, I1, r1, q1⟩ := q
  exact store_ok I1 nd na lx r1 (fun s2 I2 => ⟨_, H1, I2, q1⟩) hf
theorem pssk_one {st : Stmt} {t : TS} (h : PSK X i st t) : PSsK X i [st] (tSeq t tNext) := by
  intro pins s σ H D tk I q
  refine wpAny_execs_cons (thn (h pins s σ H _ tk I q) fun f s1 r => ?_)
  cases f with
  | next =>
    obtain ⟨σ', H', I', r⟩ := r
    exact wpAny_execs_nil ⟨σ', H', I', r⟩
  | ret v => exact r
  | brk => exact r
  | cont => exact r
end
/-! the loop over a text -/
section
variable {X : Cx}
theorem item_str {A : Around} {E : Value → Shared → Prop} {prog : Program} {w : World} {s : Shared} {it : Addr} {x : Str} {t : Tok} {i c : Nat} {ty : String} {Q : Option Value → Shared → Prop} (hty : ty = "str_ascii_iterator" ∨ ty = "str_iterator") (st : s.heap.IsStrIter it ty x t i) (hx : x.cps[i]? = some c)
    (q : ∀ h', h'.IsStrIter it ty x t (i + 1) → Heap.SameBut it s.heap h' → Q (some (.str ⟨#[c]⟩ s.toks)) { s with heap := h', toks := s.toks + 1 }) : wpAny (model prog w) A (pyNext (.ref it)) Q E s := by
  rcases hty with e | e
  · subst e
    exact wpAny_pyNext_ascii_item st hx q
  · subst e
    exact wpAny_pyNext_wide_item st hx q
/-- for c in x: body, where the body knows c's token -/
theorem pst_forK {iter : Expr} {body : List Stmt} {te : TE} {tb : TS} {i : Nat} {kl : Str} {pl pos : Pos} (hp : PassesOwn (model X.prog X.w) X.A X.env X.xe) (calm : X.calm = true) (hi : PE X iter te) (nd : X.N.Nodup) (nl : X.N[i]? = some kl) (lo : X.env.scope.names.lookup kl = some .local)
    (hb : PSsK X i body tb) (fo : ∀ x, foldedSetIterable iter X.env x = pure x := by intro _; rfl) : PST X (.For (.Name kl pl) iter body [] pos) (tFor (iStr te) (gName i) tb) := by
  intro pins s σ H D h0 I h
  have go : wpAny (model X.prog X.w) X.A (eval iter X.env) (fun v s1 => 1 ≤ s1.toks ∧ wpAny (model X.prog X.w) X.A (pyIter v) (fun itv s2 => ∃ (it : Addr) (x : Str) (t : Tok) (ty : String) (H1 : Hp), (ty = "str_ascii_iterator" ∨ ty = "str_iterator") ∧ itv = .ref it ∧ Inv X pins σ H1 s2 ∧ s2.heap.IsStrIter it ty x t 0 ∧ FpOk X pins H1 it ∧ 1 ≤ s2.toks ∧
      ∃ W : Nat → Nat → L2.St → Hp → Prop, (∃ m, W 0 m σ H1) ∧ ∀ j m σ H, W j m σ H → ((Its x).stop j H ∧ D.nx σ H) ∨ ((Its x).go j H ∧ ∃ N : L2.St → Hp → Prop, (∀ σ' H', N σ' H' → ∃ m', m' < m ∧ W (j + 1) m' σ' H') ∧ ∀ v H', (Its x).yld j H v H' → gName i v σ H' fun σ2 H2 => tb { D with nx := N, ct := N, bk := D.nx } σ2 H2)) X.xe s1) X.xe s := by
    refine wpAny_mono (PySem.wpAny_toks (hi.run pins s σ H _ I h)) (fun v s1 q => ?_) fun _ _ z => z.2
    obtain ⟨hk, y, H1, I1, r1, x, ex, q⟩ := q
    subst ex
    obtain ⟨t, rfl⟩ := r1
    have s1t : 1 ≤ s1.toks := Nat.le_trans h0 hk
    refine ⟨s1t, ?_⟩
    have fresh := I1.hok.fresh (Nat.le_refl s1.heap.objs.size)
    have fp : FpOk X pins H1 s1.heap.objs.size := I1.fpOk (Nat.le_refl _) fresh
    cases ha : x.cps.all (· < 128)
    · exact wpAny_pyIter_wide ha ⟨_, x, t, "str_iterator", H1, .inr rfl, rfl, I1.kept (t' := s1.toks) fun b o e => Heap.get?_push_of_some _ e, ⟨_, Heap.get?_push_size _ rfl, rfl, rfl⟩, fp, s1t, q⟩
    · exact wpAny_pyIter_ascii ha ⟨_, x, t, "str_ascii_iterator", H1, .inl rfl, rfl, I1.kept (t' := s1.toks) fun b o e => Heap.get?_push_of_some _ e, ⟨_, Heap.get?_push_size _ rfl, rfl, rfl⟩, fp, s1t, q⟩
  refine wpAny_For (thn go fun v s1 q1 => thn q1.2 fun itv s2 q2 => ?_) fo
  obtain ⟨it, x, t, ty, H2, hty, rfl, I2, st2, f2, t2, W, ⟨m0, w0⟩, turn⟩ := q2
  have T := turn_str (P := X.prog) (w := X.w) (K := X.K) (tg := .Name kl pl) it x t ty hty
  obtain ⟨_, g1, g2, g3, g4, g5⟩ := f2
  have fpo : ∀ {H' : Hp}, H' it = none → FpOk X pins H' it := fun hn => ⟨hn, g1, g2, g3, g4, g5⟩
  have fps : ∀ {H' : Hp}, H' it = none → ∀ b ∈ [it], FpOk X pins H' b := fun {H'} hn b hb => by
    rw [List.mem_singleton.mp hb]
    exact fpo hn
  have plain : ["enumerate", "zip", "dict_itemiterator", "dict_reverseitemiterator", "odict_iterator", "itertools.zip_longest", "itertools.pairwise"].contains ty = false := by
    rcases hty with e | e <;> (rw [e]; decide)
  refine codeAny_forLoop_any (fun n s' => ∃ j σ' H', Inv X pins σ' H' s' ∧ s'.heap.IsStrIter it ty x t j ∧ H' it = none ∧ 1 ≤ s'.toks ∧ W j n σ' H') ?_ m0 ⟨0, σ, H2, I2, st2, by assumption, t2, w0⟩
  rintro n s3 ⟨j, σ3, H3, I3, st3, fr3, t3, w3⟩
  rcases turn j n σ3 H3 w3 with ⟨stop, qn⟩ | ⟨more, N, hN, step⟩
  · refine wpAny_passesOwn hp (thn (T.done X rfl rfl rfl calm j pins s3 σ3 H3 X.xe I3 (fps fr3) st3 stop) fun r s4 q4 => ?_)
    obtain ⟨rfl, I4⟩ := q4
    exact wpAny_execs_nil ⟨σ3, H3, I4, qn⟩
  · obtain ⟨c, hc⟩ : ∃ c, x.cps[j]? = some c := ⟨_, Array.getElem?_eq_getElem more⟩
    refine wpAny_passesOwn hp (item_str hty st3 hc fun h' st4 sb => ?_)
    have I4 : Inv X pins σ3 H3 { s3 with heap := h', toks := s3.toks + 1 } := I3.turned (fun b o hb e => sb.extBut b o hb e) fr3 g1 g3 g4 g5
    obtain ⟨oi, e4, c4, d4⟩ := id st4
    refine wpAny_passesOwn hp (go_of (s := { s3 with heap := h', toks := s3.toks + 1 }) e4 c4 d4 plain ?_)
    have I5 := I4.pinned (fps fr3) (T.obj _ _ st4)
    have yl := step (.str ⟨#[c]⟩) H3 ⟨rfl, c, hc, rfl⟩
    refine wpAny_passesOwn hp (wpAny_assign_Name (store_tk I5 nd nl lo (show s3.toks ≠ 0 from Nat.ne_of_gt t3) (show s3.toks < s3.toks + 1 + 1 from Nat.lt_succ_of_lt (Nat.lt_succ_self _)) fun s6 I6 tk => ?_))
    have t6 : 1 ≤ s6.toks := by
      obtain ⟨_, _, _, tt, _, _, _, _, _, a, b⟩ := tk
      exact Nat.le_trans (Nat.pos_of_ne_zero a) (Nat.le_of_lt b)
    refine wpAny_passesOwn hp (wpAny_mono (PySem.wpAny_toks (hb _ s6 _ H3 _ tk I6 yl)) (fun f s7 q7 => ?_) fun _ _ z => z.2)
    obtain ⟨k7, q7⟩ := q7
    have t7 : 1 ≤ s7.toks := Nat.le_trans t6 k7
    have again : ∀ {σ7 : L2.St} {H7 : Hp}, Inv X (pins ++ pinsAt [it] h') σ7 H7 s7 → N σ7 H7 → ∃ m, m < n ∧ ∃ j σ' H', Inv X pins σ' H' s7 ∧ s7.heap.IsStrIter it ty x t j ∧ H' it = none ∧ 1 ≤ s7.toks ∧ W j m σ' H' := fun {σ7 H7} I7 n7 => by
      obtain ⟨m', hm, w7⟩ := hN σ7 H7 n7
      have pin := I7.pin (it, oi) (List.mem_append_right _ (List.mem_append_right _ (mem_pinsAt (List.mem_singleton.mpr rfl) e4)))
      exact ⟨m', hm, j + 1, σ7, H7, I7.unpinned, ⟨oi, pin.1, c4, d4⟩, pin.2.1, t7, w7⟩
    cases f with
    | next =>
      obtain ⟨σ7, H7, I7, n7⟩ := q7
      exact again I7 n7
    | cont =>
      obtain ⟨σ7, H7, I7, n7⟩ := q7
      exact again I7 n7
    | brk =>
      obtain ⟨σ7, H7, I7, r7⟩ := q7
      exact ⟨σ7, H7, I7.unpinned, r7⟩
    | ret v =>
      obtain ⟨y7, σ7, H7, I7, r7, p7⟩ := q7
      exact ⟨y7, σ7, H7, I7.unpinned, r7, p7⟩
end
theorem noxT {X : Cx} {ss : List Stmt} {t : TS} (h : PSsT X.nox ss t) : PSsT X ss t := by
  intro pins s σ H D t1 I q
  exact wpAny_mono (h pins s σ H D t1 (I.wish _) q) (fun _ _ r => r.unwish) (fun _ _ z => z.elim)
/-! a def whose body gives out tokens -/
section
variable {P : Program} {w : World} {K : PySem.W.Frag} {mg : Str → Option Value} {base : Heap} {x qual : Str} {params : Arguments} {body : List Stmt} {scope : Scope} {dvs : List V} {kws : List (Str × V)} {f : Addr} {fd : FuncData}
theorem okT {CX : CXT} {N ps : List Str} {k : Nat} {sp : Sp} (F : FunD K x qual params body scope dvs kws f fd) (S : FnScope N ps scope) (nc : ∀ y ∈ scope.names, y.2 ≠ .cell) (p1 : 1 ≤ ps.length) (len : ∀ vs H Q E, sp vs H Q E → vs.length = ps.length)
    (hb : ∀ (cdv : Value) (A : Around) (outer : List Env) (s : Shared) (H : Hp) (vs : List V) (Q : VK) (E : XK), Room k (A.deeper (envOfC qual scope s.heap.objs.size f cdv)) → sp vs H Q E →
      ∃ t, PSsT (cxOf CX P w K mg base N qual scope f cdv A outer s H E) body t ∧ t { nx := fun _ H' => Q .non H', rt := Q } (start N vs) H) : FnOk P w K mg base CX (k + 1) f fd ps sp := by
  obtain ⟨_, _, _, _, _, _, _, cdv, _, _, rfl, lk, co, _, _⟩ := F.ex
  exact fn_ofT lk co S nc p1 len fun A outer s H vs Q E rm hs => hb cdv A outer s H vs Q E rm hs
end
end TKR
/-! a def that returns a sign of a text: its token is out -/
namespace TKR
open PySem PySem.Spec PyProof.Rows L2
def TkO (u : Value) (s : Shared) : Prop := ∃ y t, u = .str y t ∧ t ≠ 0 ∧ t < s.toks
def CRK (CX : CXT) (outer : List Env) (P : Program) (w : World) (H : Hp) (s : Shared) (Q : VK) (E : XK) (r : Result) (s' : Shared) : Prop :=
  match r with
  | .ok (.ret u) => CE outer P w H s Q u s' ∧ TkO u s'
  | .ok _ => False
  | .error e => CX outer H s E e s'
structure FnOkK (P : Program) (w : World) (K : PySem.W.Frag) (mg : Str → Option Value) (base : Heap) (CX : CXT) (k : Nat) (f : Addr) (fd : FuncData) (ps : List Str) (sp : Sp) : Prop where
  len : ∀ vs H Q E, sp vs H Q E → vs.length = ps.length
  run : ∀ (A : Around) (outer : List Env) (s : Shared) (H : Hp) (args : Args) (us : List Value) (vs : List V) (Q : VK) (E : XK), Room k A → Env0 P w K mg base A outer s H → BindsTo s fd args (ps.zip us) → Vals vs us → sp vs H Q E →
    codeAny (model P w) A (.call (.ref f) args) (CRK CX outer P w H s Q E) s
section
variable {X : Cx} {CX : CXT} {k : Nat} {f : Addr} {fd : FuncData} {ps : List Str} {sp : Sp} {E : XK} {ds : List Value} {dvs : List V}
theorem run_fnK {pins : List (Addr × Obj)} {σ : L2.St} {H : Hp} {s : Shared} {Q : VK} {us : List Value} {vs : List V} (F : FnOkK X.prog X.w X.K X.mg X.base CX k f fd ps sp) (hr : Room k X.A) (hb : Binds X.K fd ps ds) (hd : Vals dvs ds) (hx : Passes CX X E)
    (I : Inv X pins σ H s) (r : Vals vs us) (h : sp (vs ++ dvs) H Q E) : wpAny (model X.prog X.w) X.A (call (.ref f) us) (fun u s' => EP X pins σ Q u s' ∧ TkO u s') X.xe s := by
  have r2 : Vals (vs ++ dvs) (us ++ ds) := r.append hd
  have hl : (us ++ ds).length = ps.length := by rw [← r2.length]; exact F.len _ _ _ _ h
  refine wpAny_call (codeAny_mono (F.run X.A X.stack s H ⟨us, []⟩ (us ++ ds) (vs ++ dvs) Q E hr I.env0 (hb s us I.kIn hl) r2 h) fun r s' hq => ?_)
  cases r with
  | error e => exact hx pins σ H s e s' I hq
  | ok fl =>
    cases fl with
    | ret u => exact ⟨I.after hq.1, hq.2⟩
    | next => exact False.elim hq
    | brk => exact False.elim hq
    | cont => exact False.elim hq
/-- x = f(..); the rest knows x's token -/
theorem pss_setK {i : Nat} {x g : Str} {e : Expr} {es : List Expr} {t : TA} {rest : List Stmt} {u : TS} {p cpos pos' pos : Pos} (F : FnOkK X.prog X.w X.K X.mg X.base CX k f fd ps sp) (hr : Room k X.A) (hg : Gl X g) (hm : X.mg g = some (.ref f)) (hk : PySem.W.keepIn X.K (.ref f) = true) (hb : Binds X.K fd ps ds) (hd : Vals dvs ds) (hx : Passes CX X E)
    (ha : PA X (e :: es) t) (nd : X.N.Nodup) (hi : X.N[i]? = some x) (lx : X.env.scope.names.lookup x = some .local) (hrest : PSsK X i rest u) (hdb : (g == ("__debug__" : Str)) = false := by decide) (he : starEach (e :: es) X.env = (false, eval e X.env) :: starEach es X.env := by rfl) (hpl : (backTo cpos (starEach es X.env)).any (·.1) = false := by rfl)
    (sw : swapsWith (.Call (.Name g p) (e :: es) [] cpos) (some (.Name x pos')) pos.line X.env = pure false := by rfl) :
    PSs X (.Assign [.Name x pos'] (.Call (.Name g p) (e :: es) [] cpos) pos :: rest) (fun D σ H => tCall sp dvs E t σ H fun v H1 => ∀ y, v = .str y → u D (σ.set i (some (.str y))) H1) := by
  refine ⟨fun pins s σ H D I h => ?_⟩
  refine wpAny_execs_cons (wpAny_Assign_Name ?_ sw)
  refine wpAny_Call_Name_kw (ld_glob I hg hm ?_ hdb)
  refine PySem.W.callWith_K (h₀ := X.base) I.ok.mod.kin hk (thn (ha.run cpos pins s σ H _ I h) fun us s1 q => ?_) he hpl
  obtain ⟨vs, H1, I1, r, q⟩ := q
  refine ⟨I1.kIn, ?_⟩
  refine thn (run_fnK F hr hb hd hx I1 r q) fun w s2 q2 => ?_
  obtain ⟨⟨v, H2, I2, rv, q3⟩, y, t0, rfl, tn, tl⟩ := q2
  have ev : v = .str y := by
    cases v <;> first | (obtain ⟨_, e⟩ := rv; cases e; rfl; done) | (cases rv; done) | (obtain ⟨_, e⟩ := rv; exact absurd e (by intro e; cases e))
  subst ev
  refine store_tk I2 nd hi lx tn (Nat.lt_succ_of_lt tl) fun s3 I3 tk => ?_
  exact hrest pins s3 _ H2 D tk I3 (q3 y rfl)
end
section
variable {X : Cx} {i : Nat}
theorem pssk_cons {st : Stmt} {ss : List Stmt} {t u : TS} (h : PSK X i st t) (hs : PSs X ss u) : PSsK X i (st :: ss) (tSeq t u) := by
  intro pins s σ H D tk I q
  refine wpAny_execs_cons (thn (h pins s σ H _ tk I q) fun f s1 r => ?_)
  cases f with
  | next =>
    obtain ⟨σ', H', I', r⟩ := r
    exact hs.run pins s1 σ' H' D I' r
  | ret v => exact r
  | brk => exact r
  | cont => exact r
theorem okix {a b : Expr} {ta tb : TE} {pos : Pos} (ha : PE X a ta) (hb : PE X b tb) (hs : PlainIx b) {pins : List (Addr × Obj)} {s : Shared} {σ : L2.St} {H : Hp} {Q : VK} (h0 : 1 ≤ s.toks) (I : Inv X pins σ H s) (h : tOp rIxS ta tb σ H Q) :
    wpAny (model X.prog X.w) X.A (eval (.Subscript a b pos) X.env) (fun u s' => EP X pins σ Q u s' ∧ TkO u s') X.xe s := by
  refine PySem.wpAny_with_toks (n := 1) h0 ?_
  refine Subscript_ (wpAny_mono (PySem.wpAny_toks (ha.run pins s σ H _ I h)) (fun v s1 q => ?_) fun _ _ z => ?_)
  · obtain ⟨k1, x, H1, I1, r1, q1⟩ := q
    refine wpAny_mono (PySem.wpAny_toks (hb.run pins s1 σ H1 _ I1 q1)) (fun u s2 q => ?_) fun _ _ z _ => z.2
    obtain ⟨k2, y, H2, I2, r2, z, i, c, rfl, rfl, hz, he, q2⟩ := q
    obtain ⟨t, rfl⟩ := r1
    obtain ⟨t', rfl⟩ := r2
    obtain ⟨j, h1, h2, h3, h4, h5⟩ := atI_get he
    have hl : z.cps.toList.length = z.length := by simp [Str.length]
    rw [hl] at h1 h4 h5
    have hn := line63
    exact tail_any (typeIs_str s2 z t) slot_str_getitem.lookup (getItem_str (c := c) (by
      have e1 : decide (i < -(2 ^ 63 : Int)) = false := decide_eq_false (by omega)
      have e2 : decide (i ≥ 2 ^ 63) = false := decide_eq_false (by omega)
      rw [e1, e2, Bool.or_false]) (by rw [h1]; simpa using h2) fun _ => ⟨⟨.str ⟨#[c]⟩, H2, I2.tok _, ⟨_, rfl⟩, q2⟩, _, _, rfl, Nat.ne_of_gt (Nat.lt_of_lt_of_le h0 (Nat.le_trans k1 k2)), Nat.lt_succ_self _⟩) (hs _ _)
  · exact fun _ => z.2
/-- a body `return a[b]` of a def with parameters -/
theorem fn_ixK {CX : CXT} {P : Program} {w : World} {K : PySem.W.Frag} {mg : Str → Option Value} {base : Heap} {x qual : Str} {params : Arguments} {scope : Scope} {dvs : List V} {kws : List (Str × V)} {f : Addr} {fd : FuncData} {a b : Expr} {spos rpos : Pos} {k : Nat} {N ps : List Str} {sp : Sp}
    (F : FunD K x qual params [.Return (some (.Subscript a b spos)) rpos] scope dvs kws f fd) (S : FnScope N ps scope) (hnc : ∀ y ∈ scope.names, y.2 ≠ .cell) (hps : 1 ≤ ps.length) (len : ∀ vs H Q E, sp vs H Q E → vs.length = ps.length) (hpx : PlainIx b)
    (hb : ∀ (cdv : Value) (A : Around) (outer : List Env) (s : Shared) (H : Hp) (vs : List V) (Q : VK) (E : XK), Room k (A.deeper (envOfC qual scope s.heap.objs.size f cdv)) → sp vs H Q E →
      ∃ ta tb, PE (cxOf CX P w K mg base N qual scope f cdv A outer s H E) a ta ∧ PE (cxOf CX P w K mg base N qual scope f cdv A outer s H E) b tb ∧ tOp rIxS ta tb (start N vs) H Q) : FnOkK P w K mg base CX (k + 1) f fd ps sp := by
  obtain ⟨_, _, _, _, _, _, _, cdv, _, _, rfl, lk, co, _, _⟩ := F.ex
  refine ⟨len, fun A outer s H args us vs Q E hr e0 hbd r hsp => ?_⟩
  have ul : us.length = ps.length := by rw [← r.length, len _ _ _ _ hsp]
  have loc : ∀ y ∈ ps.zip us, scope.names.lookup y.1 = some .local := fun ⟨n, v⟩ hy =>
    (S.par n (List.of_mem_zip hy).1).elim id fun q => absurd rfl (hnc _ (PySem.mem_of_lookup q))
  have KX : K.In s.heap := e0.mod.kin.keeps fun b o e => (e0.bs b o e).1
  have lim : s.heap.NoLimit := e0.mod.nolimit.keeps fun b o e => (e0.bs b o e).1
  have zl : (ps.zip us).length = ps.length := by rw [List.length_zip, ul, Nat.min_self]
  have zk : ∀ y ∈ ps.zip us, (envOfC qual scope s.heap.objs.size f cdv).kindOf y.1 = some .local := fun y hy => by
    first
    | exact loc y hy
    | (unfold Env.kindOf; rw [if_pos S.kind]; exact loc y hy)
    | simpa [Env.kindOf, envOfC, newEnv, S.kind] using loc y hy
  have nocell := cells_none scope.names (s.heap.objs.size + 1) [] hnc
  have env_ : newEnv scope s.heap.objs.size mainGlobals [] (qual ++ ".<locals>.") (some f) cdv none builtinsNs = envOfC qual scope s.heap.objs.size f cdv := by
    unfold envOfC
    rw [nocell] <;> rfl
  refine codeAny_call_function hr.depth (KX _ _ lk) rfl S.co S.gen rfl (PySem.W.codeRec_of KX co) (hbd _ _ _ _ ?_)
  refine wpAny_newFunctionEnv hnc loc (fun h1 hns hsb => ?_) S.kind
  have kept : ∀ b o, s.heap.get? b = some o → h1.get? b = some o := fun b o e => hsb.extBut b o (Nat.ne_of_lt (Heap.lt_size e)) (Heap.get?_push_of_some _ e)
  have names : (fun x => (ps.zip us).reverse.lookup x) = bindL (envOfC qual scope s.heap.objs.size f cdv).kindOf (ps.zip us) fun _ => none := by
    funext y
    rw [bindL_loc _ _ zk y, Option.or_none]
  have I : Inv (cxOf CX P w K mg base N qual scope f cdv A outer s H E) [] (start N vs) H ({ s with heap := h1, toks := s.toks + (ps.zip us).length } : Shared) := by
    refine inv_start S hr.hd e0 (len _ _ _ _ hsp) r (s1 := { s with heap := h1, toks := s.toks + (ps.zip us).length }) ?_
    rw [← names, nocell]
    exact ⟨⟨⟨_, _, rfl⟩, hns, kept, Nat.le_refl _⟩, fun n c hc => absurd hc (by simp), .nil, fun n c hc => absurd hc (by simp)⟩
  refine ⟨lim.keeps kept, ?_⟩
  rw [env_]
  refine codeAny_func ?_
  obtain ⟨ta, tb, ga, gb, q⟩ := hb cdv A outer s H vs Q E (hr.deeper _) hsp
  have go := okix (pos := spos) ga gb hpx (by show 1 ≤ s.toks + (ps.zip us).length; omega) I q
  refine wpAny_execs_cons (wpAny_Return_some (wpAny_mono go (fun u s' q' => ?_) fun e s' h => h))
  obtain ⟨⟨v, H', J, rv, qv⟩, tk⟩ := q'
  exact ⟨⟨v, H', J.os, J.bare, J.base, J.hok, rv, qv⟩, tk⟩
end
end TKR
namespace DW
open PySem PySem.Spec PyProof.Rows L2
/-! ### a def that stands in the module -/
structure Df (K : PySem.W.Frag) (mg : Str → Option Value) (x : Str) (st : Stmt) (ps : List Str) where
  f : Addr
  fd : FuncData
  F : FunD K x x (defArgs st) (defBody st) (defScope st) [] [] f fd
  g : mg x = some (.ref f)
  b : Binds K fd ps []
/-! ### heaps: all but the tape stays -/
structure Kp (t : Addr) (H H' : Hp) : Prop where
  old : ∃ kvs, H t = some (.dK kvs)
  new : ∃ kvs, H' t = some (.dK kvs)
  oth : ∀ b o, b ≠ t → H b = some o → H' b = some o
theorem Kp.trans {t : Addr} {H H1 H2 : Hp} (a : Kp t H H1) (b : Kp t H1 H2) : Kp t H H2 := ⟨a.old, b.new, fun c o n e => b.oth c o n (a.oth c o n e)⟩
theorem Kp.of {t : Addr} {H H' : Hp} {kvs : List (Key × V)} (e : H t = some (.dK kvs)) (s : Same H H') : Kp t H H' := ⟨⟨_, e⟩, ⟨_, s _ _ e⟩, fun b o _ h => s b o h⟩
theorem Kp.at {t b : Addr} {H H' : Hp} {o : HO} (k : Kp t H H') (h : H b = some o) (n : ∀ kvs, o ≠ .dK kvs) : H' b = some o := by
  obtain ⟨kvs, e⟩ := k.old
  exact k.oth b o (fun z => by
    subst z
    rw [e] at h
    exact n kvs (Option.some.inj h).symm) h
theorem Kp.lst {t b : Addr} {H H' : Hp} {xs : List V} {K : PySem.W.Frag} (k : Kp t H H') (h : SqL K H b xs) : SqL K H' b xs := by
  rcases h with (h | ⟨o, h⟩) | h
  · exact .inl (.inl (k.at h fun _ z => by cases z))
  · exact .inl (.inr ⟨o, k.at h fun _ z => by cases z⟩)
  · exact .inr h
theorem Kp.tup {t b : Addr} {H H' : Hp} {xs : List V} {K : PySem.W.Frag} (k : Kp t H H') (h : SqT K H b xs) : SqT K H' b xs := by
  rcases h with (h | ⟨o, h⟩) | h
  · exact .inl (.inl (k.at h fun _ z => by cases z))
  · exact .inl (.inr ⟨o, k.at h fun _ z => by cases z⟩)
  · exact .inr h
theorem same_upd {H : Hp} {p : Addr} {o : HO} (h : H p = none) : Same H (upd H p o) := fun b x e => by
  rw [upd_ne (ne_of_none e h)]
  exact e
theorem Kp.gone {t b : Addr} {H H' : Hp} (k : Kp t H H') (h : H' b = none) : H b = none := by
  cases q : H b with
  | none => rfl
  | some o =>
    by_cases e : b = t
    · obtain ⟨kvs, z⟩ := k.new
      rw [e, z] at h
      cases h
    · rw [k.oth b o e q] at h
      cases h
/-! ### the tape -/
def tpd (c : Addr) (p l : Int) : List (Key × V) := [(.inr "cells", .ref c), (.inr "place", .int p), (.inr "left", .int l)]
structure Tape (H : Hp) (t c : Addr) (n : Nat) : Prop where
  ex : ∃ (cells : List Int) (p : Nat) (l : Int), H t = some (.dK (tpd c p l)) ∧ H c = some (.lst (cells.map V.int)) ∧ 0 < cells.length ∧ cells.length ≤ 63 ∧ p ≤ n ∧ 0 ≤ l
section
variable {H H' : Hp} {t c : Addr} {n m : Nat}
theorem Tape.dk (T : Tape H t c n) : ∃ kvs, H t = some (.dK kvs) := by
  obtain ⟨cells, p, l, h, _⟩ := T.ex
  exact ⟨_, h⟩
theorem Tape.same (T : Tape H t c n) (s : Same H H') : Tape H' t c n := by
  obtain ⟨cells, p, l, h, hc, r⟩ := T.ex
  exact ⟨cells, p, l, s _ _ h, s _ _ hc, r⟩
theorem Tape.kp (T : Tape H t c n) (s : Same H H') : Kp t H H' := by
  obtain ⟨kvs, h⟩ := T.dk
  exact Kp.of h s
theorem Tape.mono (T : Tape H t c n) (h : n ≤ m) : Tape H t c m := by
  obtain ⟨cells, p, l, h1, h2, h3, h4, h5, h6⟩ := T.ex
  exact ⟨cells, p, l, h1, h2, h3, h4, Nat.le_trans h5 h, h6⟩
theorem Kp.refl (T : Tape H t c n) : Kp t H H := T.kp (Same.refl H)
/-- a store at an object that is not the tape's -/
theorem Tape.upd {D : Addr} {o : HO} (T : Tape H t c n) (h1 : D ≠ t) (h2 : D ≠ c) : Tape (upd H D o) t c n := by
  obtain ⟨cells, p, l, h, hc, r⟩ := T.ex
  exact ⟨cells, p, l, (upd_ne h1.symm).trans h, (upd_ne h2.symm).trans hc, r⟩
theorem Tape.ne1 {D : Addr} (T : Tape H t c n) (h : H D = none) : D ≠ t := fun z => by
  obtain ⟨cells, p, l, e, hc, r⟩ := T.ex
  rw [z, e] at h
  cases h
theorem Tape.ne2 {D : Addr} (T : Tape H t c n) (h : H D = none) : D ≠ c := fun z => by
  obtain ⟨cells, p, l, e, hc, r⟩ := T.ex
  rw [z, hc] at h
  cases h
theorem Kp.put {D : Addr} {o : HO} (k : Kp t H H') (h : H D = Option.none) (h1 : D ≠ t) : Kp t H (L2.upd H' D o) := by
  obtain ⟨kvs, e⟩ := k.new
  refine ⟨k.old, ⟨kvs, (upd_ne h1.symm).trans e⟩, fun b u n q => ?_⟩
  rw [upd_ne (ne_of_none q h)]
  exact k.oth b u n q
end
theorem ks1 : ¬ (("cells" : Str) = "place") := by decide +kernel
theorem ks2 : ¬ (("cells" : Str) = "left") := by decide +kernel
theorem ks3 : ¬ (("place" : Str) = "left") := by decide +kernel
theorem ks1' : ¬ (("place" : Str) = "cells") := by decide +kernel
theorem ks2' : ¬ (("left" : Str) = "cells") := by decide +kernel
theorem ks3' : ¬ (("left" : Str) = "place") := by decide +kernel
theorem tp_cells (c : Addr) (p l : Int) : valV (tpd c p l) (Sum.inr ("cells" : Str)) = some (.ref c) := by simp [tpd, valV]
theorem tp_place (c : Addr) (p l : Int) : valV (tpd c p l) (Sum.inr ("place" : Str)) = some (.int p) := by simp [tpd, valV, ks1]
theorem tp_left (c : Addr) (p l : Int) : valV (tpd c p l) (Sum.inr ("left" : Str)) = some (.int l) := by simp [tpd, valV, ks2, ks3]
theorem tp_put_place (c : Addr) (p q l : Int) : putK (tpd c p l) (Sum.inr ("place" : Str)) (.int q) = tpd c q l := by simp [putK, tpd, ks1, ks3']
theorem tp_put_left (c : Addr) (p l m : Int) : putK (tpd c p l) (Sum.inr ("left" : Str)) (.int m) = tpd c p m := by simp [putK, tpd, ks2, ks3]
theorem tp_merge (c : Addr) (p l : Int) : mergeK [] (tpd c p l) = tpd c p l := by simp [mergeK, putK, tpd, ks1, ks2, ks3]
theorem g_cells {H : Hp} {t c : Addr} {p l : Int} (h : H t = some (.dK (tpd c p l))) : DGet H t (.str "cells") (some (.ref c)) := by
  have q := DGet.k (k := Sum.inr ("cells" : Str)) h
  rw [tp_cells] at q
  exact q
theorem g_place {H : Hp} {t c : Addr} {p l : Int} (h : H t = some (.dK (tpd c p l))) : DGet H t (.str "place") (some (.int p)) := by
  have q := DGet.k (k := Sum.inr ("place" : Str)) h
  rw [tp_place] at q
  exact q
theorem g_left {H : Hp} {t c : Addr} {p l : Int} (h : H t = some (.dK (tpd c p l))) : DGet H t (.str "left") (some (.int l)) := by
  have q := DGet.k (k := Sum.inr ("left" : Str)) h
  rw [tp_left] at q
  exact q
theorem p_place {H : Hp} {t c : Addr} {p l : Int} (q : Int) (h : H t = some (.dK (tpd c p l))) : DPut H t (.str "place") (.int q) (upd H t (.dK (tpd c q l))) := by
  have z := DPut.k (k := Sum.inr ("place" : Str)) (v := V.int q) h (by show 3 < sizeLine; decide)
  rw [tp_put_place] at z
  exact z
theorem p_left {H : Hp} {t c : Addr} {p l : Int} (q : Int) (h : H t = some (.dK (tpd c p l))) : DPut H t (.str "left") (.int q) (upd H t (.dK (tpd c p q))) := by
  have z := DPut.k (k := Sum.inr ("left" : Str)) (v := V.int q) h (by show 3 < sizeLine; decide)
  rw [tp_put_left] at z
  exact z
def spBegin (K : PySem.W.Frag) : Sp := fun vs H Q _ => ∃ (a : Addr) (ns : List Int), vs = [.ref a] ∧ SqL K H a (ns.map V.int) ∧ ∀ H' t c, Same H H' → H t = none → H c = none → Tape H' t c 0 → Q (.ref t) H'
def spDraw : Sp := fun vs H Q _ => ∃ (t c : Addr) (m : Int) (n : Nat), vs = [.ref t, .int m] ∧ Tape H t c n ∧ n < 2 ^ 40 ∧ 0 < m ∧ m < 2 ^ 30 ∧ ∀ H' r, Kp t H H' → Tape H' t c (n + 1) → 0 ≤ r → r < m → Q (.int r) H'
/-- pick: from a list, from a text -/
def spPick (K : PySem.W.Frag) : Sp := fun vs H Q _ => ∃ (t c : Addr) (n : Nat) (x : V), vs = [.ref t, x] ∧ Tape H t c n ∧ n < 2 ^ 40 ∧
  ((∃ a xs, x = .ref a ∧ SqL K H a xs ∧ xs ≠ [] ∧ xs.length < 2 ^ 30 ∧ ∀ H' y, Kp t H H' → Tape H' t c (n + 1) → y ∈ xs → Q y H') ∨
   (∃ z : Str, x = .str z ∧ z.length ≠ 0 ∧ z.length < 2 ^ 20 ∧ ∀ H' d, Kp t H H' → Tape H' t c (n + 1) → d ∈ z.cps.toList → Q (.str ⟨#[d]⟩) H'))
section
variable {P : Program} {w : World} {K : PySem.W.Frag} {mg : Str → Option Value} {base : Heap}
theorem scBegin : FnScope ["_law_script"] ["_law_script"] (defScope sBegin) := ⟨rfl, rfl, rfl, by decide +kernel, rfl, by decide +kernel, by decide +kernel⟩
theorem cut63 (ns : List Int) : ∃ ms : List Int, cutV (ns.map V.int) none (some 63) = ms.map V.int ∧ ms.length ≤ 63 := by
  refine ⟨ns.take 63, ?_, ?_⟩
  · unfold cutV
    rw [HT.sIx_none, show HT.sIx (ns.map V.int).length (ns.map V.int).length (some 63) = min 63 (ns.map V.int).length from HT.sIx_nat _ _ 63, List.map_take]
    show List.take _ (List.drop 0 _) = _
    rw [List.drop_zero, Nat.sub_zero]
    by_cases c : 63 ≤ (ns.map V.int).length
    · rw [Nat.min_eq_left c]
    · rw [Nat.min_eq_right (by omega), List.take_length, List.take_of_length_le (by omega)]
  · rw [List.length_take]
    omega
theorem ok_begin (D : Df K mg "_law_begin" sBegin ["_law_script"]) : FnOk P w K mg base CX0 1 D.f D.fd ["_law_script"] (spBegin K) := by
  refine D.F.ok scBegin (fun vs H Q E h => ?_) (fun cdv A outer s H vs Q E hr h => ?_)
  · obtain ⟨a, ns, rfl, _⟩ := h
    rfl
  · obtain ⟨a, ns, rfl, hS, k⟩ := h
    refine ⟨_, pss_one (ps_ret (pe_disp (pps_cons pe_str (pe_orT (pe_slice sl_list (pv 0) po_none (po_some pe_int)) (pe_one (pe_lst (pa_cons pe_int pa_nil)))) (pps_cons pe_str pe_int (pps_cons pe_str pe_int pps_nil))) (by rfl) (by rfl) (fun z => by cases z) (by decide))), ?_⟩
    intro t ht
    have s1 : Same H (upd H t (.dK [])) := same_upd ht
    obtain ⟨ms, em, hm⟩ := cut63 ns
    refine ⟨_, rfl, 63, rfl, a, ns.map V.int, rfl, s1.seq hS, fun c hc => ?_⟩
    have nct : c ≠ t := fun z => by
      rw [z, upd_same] at hc
      cases hc
    rw [em]
    refine ⟨!(ms.map V.int).isEmpty, .inl ⟨_, SqL.of upd_same, rfl⟩, ite2 (fun e => ?_) (fun e => ?_)⟩
    · refine ⟨Eq.trans (upd_ne nct.symm) upd_same, tpd c 0 0, rfl, by show 3 ≤ 15; decide, ?_⟩
      rw [tp_merge]
      refine k _ t c (fun b o eb => ?_) ht (s1.free hc) ⟨ms, 0, 0, upd_same, Eq.trans (upd_ne nct) upd_same, ?_, hm, Nat.le_refl _, Int.le_refl _⟩
      · have nb : b ≠ t := ne_of_none eb ht
        rw [upd_ne nb]
        exact same_upd hc _ _ (s1 _ _ eb)
      · cases ms with
        | nil => cases e
        | cons x r => exact Nat.succ_pos _
    · refine ⟨by show 1 ≤ sizeLine; decide, fun d hd => ?_⟩
      have ndt : d ≠ t := fun z => by
        rw [z, upd_ne nct.symm, upd_same] at hd
        cases hd
      refine ⟨Eq.trans (upd_ne ndt.symm) (Eq.trans (upd_ne nct.symm) upd_same), tpd d 0 0, rfl, by show 3 ≤ 15; decide, ?_⟩
      rw [tp_merge]
      refine k _ t d (fun b o eb => ?_) ht (s1.free ((same_upd hc).free hd)) ⟨[0], 0, 0, upd_same, Eq.trans (upd_ne ndt) upd_same, Nat.succ_pos _, by decide, Nat.le_refl _, Int.le_refl _⟩
      have nb : b ≠ t := ne_of_none eb ht
      rw [upd_ne nb]
      exact same_upd hd _ _ (same_upd hc _ _ (s1 _ _ eb))
theorem scDraw : FnScope ["_law_tape", "_law_many", "_law_place", "_law_count", "_law_cell", "_law_found"] ["_law_tape", "_law_many"] (defScope sDraw) := ⟨rfl, rfl, rfl, by decide +kernel, rfl, by decide +kernel, by decide +kernel⟩
theorem tape_put {H : Hp} {t c : Addr} {cells : List Int} {n p : Nat} {l : Int} {kvs : List (Key × V)} (e : H t = some (.dK kvs)) (hc : H c = some (.lst (cells.map V.int))) (h1 : 0 < cells.length) (h2 : cells.length ≤ 63) (hp : p ≤ n) (hl : 0 ≤ l) :
    Tape (upd H t (.dK (tpd c p l))) t c n := by
  have nct : c ≠ t := ne_of hc e (by intro z; cases z)
  exact ⟨cells, p, l, upd_same, Eq.trans (upd_ne nct) hc, h1, h2, hp, hl⟩
theorem kp_put {H : Hp} {t : Addr} {kvs kvs' : List (Key × V)} (e : H t = some (.dK kvs)) : Kp t H (upd H t (.dK kvs')) := ⟨⟨_, e⟩, ⟨_, upd_same⟩, fun b o n h => (upd_ne n).trans h⟩
theorem ok_draw (D : Df K mg "_law_draw" sDraw ["_law_tape", "_law_many"]) (ml : mg "len" = none) : FnOk P w K mg base CX0 1 D.f D.fd ["_law_tape", "_law_many"] spDraw := by
  refine D.F.ok scDraw (fun vs H Q E h => ?_) (fun cdv A outer s H vs Q E hr h => ?_)
  · obtain ⟨t, c, m, n, rfl, _⟩ := h
    rfl
  · obtain ⟨t, c, m, n, rfl, T, hn, m0, m1, k⟩ := h
    have hu := hu_of hr
    refine ⟨_, C8.pss_cut (ps_if (pt_cmpR op_lt (pe_dget hu (pv 0) pe_str (fun _ _ => rfl)) (pv 1) (nomark _))
        (pss_cons (ps_par (i := 2) (j := 3) rfl scDraw.nd rfl rfl (by decide) rfl rfl (pa_cons (pe_dget hu (pv 0) pe_str (fun _ _ => rfl)) (pa_cons (pe_callB call_len_seq (by rfl) ml PySem.boot_len (pa_cons (pe_dget hu (pv 0) pe_str (fun _ _ => rfl)) pa_nil)) pa_nil)) (by rfl))
        (pss_cons (ps_asg (pe_tup (pa_cons (pe_ix ix_list (pe_dget hu (pv 0) pe_str (fun _ _ => rfl)) (pe_op op_mod (pv 2) (pv 3)) (fun _ _ => rfl)) (pa_cons (pe_op op_add (pv 2) pe_int) pa_nil)))
            (pg_tup rfl (pgs_cons (pg_name (i := 4) scDraw.nd rfl (.inl rfl)) (pgs_cons (pg_sub (pv 0) pe_str (set_dict hu)) pgs_nil))))
        (pss_cons (ps_dput hu (pv 0) pe_str (pe_op op_mod (pe_op op_pow (pe_op op_add (pe_op op_add (pe_op op_mod (pv 4) pe_int) (pe_op op_mul pe_int (pv 2))) pe_int) pe_int) (pe_op op_add (pe_op op_pow pe_int pe_int) pe_int)) rfl)
        (pss_one (ps_if (pw_and (pt_cmpR op_ge (pv 4) (pe_op op_pow pe_int pe_int) (nomark _)) (pw_and1 (pt_cmpR op_lt (pv 2) (pv 3) (nomark _)))).pt
          (pss_one (ps_dput hu (pv 0) pe_str (pe_op op_sub (pv 4) (pe_op op_pow pe_int pe_int)) rfl)) pss_nil))))) pss_nil)
      (pss_cons (ps_asg (pe_tup (pa_cons (pe_op op_mod (pe_dget hu (pv 0) pe_str (fun _ _ => rfl)) (pv 1)) (pa_cons (pe_op op_fdiv (pe_dget hu (pv 0) pe_str (fun _ _ => rfl)) (pv 1)) pa_nil)))
            (pg_tup rfl (pgs_cons (pg_name (i := 5) scDraw.nd rfl (.inl rfl)) (pgs_cons (pg_sub (pv 0) pe_str (set_dict hu)) pgs_nil))))
      (pss_one (ps_ret (pv 5)))), ?_⟩
    have m1' : m < 1073741824 := m1
    obtain ⟨cells, p, l, ht, hc, c0, c63, hp, l0⟩ := T.ex
    refine ⟨fun σ' H' => ∃ y2 y3 y4, σ' = [some (.ref t), some (.int m), y2, y3, y4, none] ∧ Kp t H H' ∧ Tape H' t c (n + 1), ?_, ?_⟩
    · refine ⟨.ref t, rfl, t, .int l, rfl, g_left ht, .int m, rfl, l, m, rfl, rfl, _, rfl, ite2 (fun e => ?_) (fun e => ?_)⟩
      · refine ⟨.ref t, rfl, t, .int p, rfl, g_place ht, .ref t, rfl, t, .ref c, rfl, g_cells ht, c, _, rfl, .inl (SqL.of hc), _, _, rfl, ?_⟩
        have lp : 0 < (cells.map V.int).length := by
          rw [List.length_map]
          exact c0
        have jl : p % (cells.map V.int).length < cells.length := by
          have := Nat.mod_lt p lp
          rw [List.length_map] at this ⊢
          exact this
        have ga : (cells.map V.int)[p % (cells.map V.int).length]? = some (.int cells[p % (cells.map V.int).length]) := by
          rw [List.getElem?_map, List.getElem?_eq_getElem jl]
          rfl
        generalize cells[p % (cells.map V.int).length] = z at ga
        refine ⟨.ref t, rfl, t, .ref c, rfl, g_cells ht, _, rfl, _, rfl, (p : Int), ((cells.map V.int).length : Int), rfl, rfl, by omega, c, _, _, .int z, rfl, rfl, SqL.of hc, at_of (j := p % (cells.map V.int).length) (by rw [Int.natCast_emod]) ga, .int p, rfl, (p : Int), 1, rfl, rfl, by show 2 ≤ sizeLine; decide, fun q hq => ?_⟩
        have s1 : Same H (upd H q (.tup [.int z, .int ((p : Int) + 1)])) := same_upd hq
        have ht1 := s1 _ _ ht
        have hc1 := s1 _ _ hc
        have nct : c ≠ t := ne_of hc ht (by intro z; cases z)
        refine ⟨q, _, rfl, SqT.of upd_same, rfl, _, _, rfl, _, _, rfl, .ref t, rfl, t, _, rfl, p_place ((p : Int) + 1) ht1, rfl, ?_⟩
        have hn' : n < 1099511627776 := hn
        have zm0 : 0 ≤ z % 2147483647 := Int.emod_nonneg _ (by decide)
        have zm1 : z % 2147483647 < 2147483647 := Int.emod_lt_of_pos _ (by decide)
        have b0 : (z % 2147483647 + 69621 * (p : Int) + 48271).natAbs < 2 ^ 64 := by omega
        refine ⟨.int z, rfl, z, 2147483647, rfl, rfl, (by show (0 : Int) < 2147483647; decide), .int p, rfl, 69621, (p : Int), rfl, rfl, .inl ⟨by decide, by decide⟩, _, _, rfl, rfl, _, 48271, rfl, rfl, _, 17, rfl, rfl, ⟨by decide, by decide, b0⟩, 10, 50, rfl, rfl, ⟨by decide, by decide, by decide⟩, _, 151, rfl, rfl, _, _, rfl, rfl, ?_, ?_⟩
        · exact (by decide +kernel : (0 : Int) < 10 ^ (50 : Int).toNat + 151)
        have ht2 : (upd (upd H q (.tup [.int z, .int ((p : Int) + 1)])) t (.dK (tpd c ((p : Int) + 1) l))) t = some (.dK (tpd c ((p : Int) + 1) l)) := upd_same
        refine ⟨.ref t, rfl, t, _, rfl, p_left ((z % 2147483647 + 69621 * (p : Int) + 48271) ^ (17 : Int).toNat % (10 ^ (50 : Int).toNat + 151)) ht2, ?_⟩
        have x0 : 0 ≤ (z % 2147483647 + 69621 * (p : Int) + 48271) ^ (17 : Int).toNat % (10 ^ (50 : Int).toNat + 151) := Int.emod_nonneg _ (by decide +kernel)
        generalize (z % 2147483647 + 69621 * (p : Int) + 48271) ^ (17 : Int).toNat % (10 ^ (50 : Int).toNat + 151) = x17 at x0 ⊢
        have k3 : Kp t H (upd (upd (upd H q (.tup [.int z, .int ((p : Int) + 1)])) t (.dK (tpd c ((p : Int) + 1) l))) t (.dK (tpd c ((p : Int) + 1) x17))) := ((Kp.of ht s1).trans (kp_put ht1)).trans (kp_put ht2)
        have hc3 := k3.at hc (fun _ z => by cases z)
        refine ⟨.int z, rfl, 10, 18, rfl, rfl, ⟨by decide, by decide, by decide⟩, z, _, rfl, rfl, _, rfl, ite2 (fun e2 => ?_) (fun e2 => ?_)⟩
        · refine ⟨.int p, rfl, _, rfl, _, _, rfl, rfl, _, rfl, ite2 (fun e3 => ?_) (fun e3 => ?_)⟩
          · have hz : (0 : Int) ≤ z - 10 ^ (18 : Int).toNat := by
              have e4 : (10 : Int) ^ (18 : Int).toNat ≤ z := of_decide_eq_true e2
              omega
            refine ⟨.int z, rfl, 10, 18, rfl, rfl, ⟨by decide, by decide, by decide⟩, z, _, rfl, rfl, .ref t, rfl, t, _, rfl, p_left (z - 10 ^ (18 : Int).toNat) upd_same, ?_⟩
            exact ⟨_, _, _, rfl, k3.trans (kp_put upd_same), tape_put (p := p + 1) upd_same hc3 c0 c63 (by omega) hz⟩
          · exact ⟨_, _, _, rfl, k3, ⟨cells, p + 1, x17, upd_same, hc3, c0, c63, by omega, x0⟩⟩
        · exact ⟨_, _, _, rfl, k3, ⟨cells, p + 1, x17, upd_same, hc3, c0, c63, by omega, x0⟩⟩
      · exact ⟨none, none, none, rfl, Kp.refl T, T.mono (Nat.le_succ n)⟩
    · rintro σ' H' ⟨y2, y3, y4, rfl, k1, T1⟩
      obtain ⟨cells, p, l, ht, hc, c0, c63, hp, l0⟩ := T1.ex
      refine ⟨.ref t, rfl, t, .int l, rfl, g_left ht, .int m, rfl, l, m, rfl, rfl, m0, .ref t, rfl, t, .int l, rfl, g_left ht, .int m, rfl, l, m, rfl, rfl, ⟨m0, m1⟩, by show 2 ≤ sizeLine; decide, fun q hq => ?_⟩
      have s1 : Same H' (upd H' q (.tup [.int (l % m), .int (l / m)])) := same_upd hq
      have ht1 := s1 _ _ ht
      refine ⟨q, _, rfl, SqT.of upd_same, rfl, _, _, rfl, _, _, rfl, .ref t, rfl, t, _, rfl, p_left (l / m) ht1, rfl, ?_⟩
      refine ⟨_, rfl, k _ _ ((k1.trans (T1.kp s1)).trans (kp_put ht1)) (tape_put ht1 (s1 _ _ hc) c0 c63 hp (Int.ediv_nonneg l0 (by omega))) (Int.emod_nonneg _ (by omega)) (Int.emod_lt_of_pos _ m0)⟩
theorem at_cp {α : Type} {xs : List α} {z : Int} {j : Nat} {v : α} (e : z = (j : Int)) (h : xs[j]? = some v) : atI xs z = some v := by
  rw [e]
  exact atI_nat h
theorem scPick : FnScope ["_law_tape", "_law_items"] ["_law_tape", "_law_items"] (defScope sPick) := ⟨rfl, rfl, rfl, by decide +kernel, rfl, by decide +kernel, by decide +kernel⟩
theorem ok_pick (D : Df K mg "_law_pick" sPick ["_law_tape", "_law_items"]) (Dd : Df K mg "_law_draw" sDraw ["_law_tape", "_law_many"]) (ml : mg "len" = none) : FnOk P w K mg base CX0 2 D.f D.fd ["_law_tape", "_law_items"] (spPick K) := by
  have Gd : FnOk P w K mg base CX0 1 Dd.f Dd.fd ["_law_tape", "_law_many"] spDraw := ok_draw Dd ml
  refine D.F.ok scPick (fun vs H Q E h => ?_) (fun cdv A outer s H vs Q E hr h => ?_)
  · obtain ⟨t, c, n, x, rfl, _⟩ := h
    rfl
  · obtain ⟨t, c, n, x, rfl, T, hn, h⟩ := h
    rcases h with ⟨a, xs, rfl, hx, ne, hl, k⟩ | ⟨z, rfl, ne, hl, k⟩
    · refine ⟨_, pss_one (ps_ret (pe_ix ix_list (pv 1) (pe_call Gd hr (by rfl) Dd.g Dd.F.kp Dd.b .nil pass0 (pa_cons (pv 0) (pa_cons (pe_callB call_len_seq (by rfl) ml PySem.boot_len (pa_cons (pv 1) pa_nil)) pa_nil))) (fun _ _ => rfl))), ?_⟩
      have l0 : 0 < xs.length := List.length_pos_iff.mpr ne
      refine ⟨.ref a, rfl, .ref t, rfl, .ref a, rfl, a, xs, rfl, .inl hx, t, c, _, n, rfl, T, hn, by omega, by omega, fun H' r k1 T1 r0 r1 => ?_⟩
      have rl : r.toNat < xs.length := by omega
      refine ⟨a, xs, r, xs[r.toNat], rfl, rfl, k1.lst hx, at_of (j := r.toNat) (by omega) (List.getElem?_eq_getElem rl), k H' _ k1 T1 (List.getElem_mem rl)⟩
    · refine ⟨_, pss_one (ps_ret (pe_ix ix_str (pv 1) (pe_call Gd hr (by rfl) Dd.g Dd.F.kp Dd.b .nil pass0 (pa_cons (pv 0) (pa_cons (pe_callB call_len_str (by rfl) ml PySem.boot_len (pa_cons (pv 1) pa_nil)) pa_nil))) (fun _ _ => rfl))), ?_⟩
      have zl : z.cps.toList.length = z.length := Array.length_toList
      refine ⟨.str z, rfl, .ref t, rfl, .str z, rfl, z, rfl, ?_, t, c, _, n, rfl, T, hn, by omega, by omega, fun H' r k1 T1 r0 r1 => ?_⟩
      · rw [sizeLine_eq]; omega
      have rl : r.toNat < z.cps.toList.length := by omega
      refine ⟨z, r, z.cps.toList[r.toNat], rfl, rfl, ?_, at_cp (by omega) (List.getElem?_eq_getElem rl), k H' _ k1 T1 (List.getElem_mem rl)⟩
      rw [sizeLine_eq]
      omega
end
end DW
namespace DW
open PySem PySem.Spec PyProof.Rows L2 TL
set_option autoImplicit false
/-! ### texts as lists of codes -/
def one (c : Nat) : Str := ⟨#[c]⟩
theorem tl_one (c : Nat) : tl (one c) = [c] := rfl
theorem tl_inj {x y : Str} (h : tl x = tl y) : x = y := by
  obtain ⟨⟨a⟩⟩ := x
  obtain ⟨⟨b⟩⟩ := y
  have e : a = b := h
  rw [e]
theorem joinL_nil : ∀ l : List (List Nat), joinL [] l = l.flatten
  | [] => rfl
  | [p] => by simp [joinL]
  | p :: q :: r => by
    show p ++ ([] ++ joinL [] (q :: r)) = (p :: q :: r).flatten
    rw [joinL_nil (q :: r)]
    simp
theorem tl_cat (ys : List Str) : tl (Txt.join "" ys) = (ys.map tl).flatten := by
  have e : tl (Str.join "" ys) = joinL (tl "") (ys.map tl) := tl_join "" ys
  rw [join_eq, e, show tl "" = [] from rfl, joinL_nil]
theorem flat_ones (cs : List Nat) : ((cs.map one).map tl).flatten = cs := by
  induction cs with
  | nil => rfl
  | cons c r ih =>
    show [c] ++ ((r.map one).map tl).flatten = c :: r
    rw [ih]
    rfl
theorem lt_ones (x p : Nat) : ltCps (tl (one x)) (tl (one p)) = decide (x < p) := by
  simp [one, ltCps]
theorem sorted_ones : ∀ ys : List Str, (∀ y ∈ ys, ∃ c, y = one c) → ys.Nodup → sortedS ys = true → ∃ cs : List Nat, ys = cs.map one ∧ cs.Pairwise (· < ·)
  | [], _, _, _ => ⟨[], rfl, List.Pairwise.nil⟩
  | [y], h, _, _ => by
    obtain ⟨c, rfl⟩ := h y List.mem_cons_self
    exact ⟨[c], rfl, List.pairwise_singleton _ _⟩
  | y :: z :: r, h, nd, so => by
    obtain ⟨hy, nd'⟩ := List.nodup_cons.mp nd
    obtain ⟨c, rfl⟩ := h y List.mem_cons_self
    obtain ⟨d, rfl⟩ := h z (List.mem_cons_of_mem _ List.mem_cons_self)
    have so' : (!ltCps (tl (one d)) (tl (one c)) && risingS (one d) r) = true := so
    rw [Bool.and_eq_true] at so'
    obtain ⟨cs, e, pw⟩ := sorted_ones (one d :: r) (fun u hu => h u (List.mem_cons_of_mem _ hu)) nd' so'.2
    have lt : c < d := by
      have q := so'.1
      rw [lt_ones] at q
      have n1 : ¬ d < c := by simpa using q
      have n2 : c ≠ d := fun z => hy (by rw [z]; exact List.mem_cons_self)
      omega
    cases cs with
    | nil => cases e
    | cons d' cs =>
      have e1 : one d = one d' := (List.cons.inj e).1
      have e2 : d = d' := by
        have q := congrArg tl e1
        exact (List.cons.inj q).1
      subst e2
      refine ⟨c :: d :: cs, by rw [List.map_cons, ← e], List.pairwise_cons.mpr ⟨fun u hu => ?_, pw⟩⟩
      rcases List.mem_cons.mp hu with q | q
      · omega
      · have := (List.pairwise_cons.mp pw).1 u q
        omega
theorem sum_ones : ∀ ys : List Str, (∀ y ∈ ys, ∃ c, y = one c) → (ys.map (·.length)).sum = ys.length
  | [], _ => rfl
  | y :: r, h => by
    obtain ⟨c, rfl⟩ := h y List.mem_cons_self
    rw [List.map_cons, List.sum_cons, sum_ones r fun u hu => h u (List.mem_cons_of_mem _ hu), List.length_cons]
    show 1 + r.length = r.length + 1
    omega
theorem yes {σ : L2.St} {H : Hp} {F G : Hp → Prop} (h : F H) : tYes σ H (fun b H3 => if b = true then F H3 else G H3) := by
  show (if true = true then F H else G H)
  rw [if_pos rfl]
  exact h
/-- an alphabet -/
def Alph (z : Str) : Prop := (tl z).Pairwise (· < ·) ∧ 1 ≤ (tl z).length ∧ (tl z).length ≤ 3 ∧ ∀ c ∈ tl z, 97 ≤ c ∧ c ≤ 122
def abc : Str := "abcdefghijklmnopqrstuvwxyz"
theorem abc_low : ∀ c ∈ tl abc, 97 ≤ c ∧ c ≤ 122 := by decide +kernel
theorem abc_len : (tl abc).length = 26 := by decide +kernel
theorem al1 : Alph "ab" := by unfold Alph; decide +kernel
theorem al2 : Alph "abc" := by unfold Alph; decide +kernel
theorem al3 : Alph "a" := by unfold Alph; decide +kernel
theorem al4 : Alph "bx" := by unfold Alph; decide +kernel
theorem al5 : Alph "cmz" := by unfold Alph; decide +kernel
theorem alph_of {ds : List Nat} {ls ys : List Str} (h1 : 1 ≤ ds.length) (h3 : ds.length ≤ 3) (low : ∀ c ∈ ds, 97 ≤ c ∧ c ≤ 122) (nd : ls.Nodup) (mem : ∀ k, k ∈ ls ↔ k ∈ ds.map one) (le : ls.length ≤ (ds.map one).length)
    (pm : ys.Perm ls) (so : sortedS ys = true) : Alph (Txt.join "" ys) := by
  have hm : ∀ y ∈ ys, y ∈ ds.map one := fun y hy => (mem y).mp (pm.mem_iff.mp hy)
  obtain ⟨cs, rfl, pw⟩ := sorted_ones ys (fun y hy => by
    obtain ⟨c, _, e⟩ := List.mem_map.mp (hm y hy)
    exact ⟨c, e.symm⟩) (pm.nodup_iff.mpr nd) so
  have e : tl (Txt.join "" (cs.map one)) = cs := by rw [tl_cat, flat_ones]
  have hl : cs.length = ls.length := by
    have q := pm.length_eq
    rw [List.length_map] at q
    exact q
  rw [List.length_map] at le
  unfold Alph
  rw [e]
  refine ⟨pw, ?_, by omega, fun c hc => ?_⟩
  · cases ds with
    | nil => cases h1
    | cons d r =>
      have q : one d ∈ ls := (mem _).mpr List.mem_cons_self
      have q2 : one d ∈ cs.map one := pm.mem_iff.mpr q
      have := List.length_pos_of_mem q2
      rw [List.length_map] at this
      omega
  · obtain ⟨d, hd, e⟩ := List.mem_map.mp (hm (one c) (List.mem_map.mpr ⟨c, hc, rfl⟩))
    have e2 : d = c := by
      have q := congrArg tl e
      exact (List.cons.inj q).1
    rw [← e2]
    exact low d hd
/-! ### what the module's names hold -/
structure Bl (mg : Str → Option Value) : Prop where
  len : mg "len" = none
  range : mg "range" = none
  sorted : mg "sorted" = none
  set : mg "set" = none
def spAlpha : Sp := fun vs H Q _ => ∃ (t c : Addr) (n : Nat), vs = [.ref t] ∧ Tape H t c n ∧ n + 10 < 2 ^ 40 ∧ ∀ H' z, Kp t H H' → Tape H' t c (n + 10) → Alph z → Q (.str z) H'
abbrev DfDraw (K : PySem.W.Frag) (mg : Str → Option Value) := Df K mg "_law_draw" sDraw ["_law_tape", "_law_many"]
abbrev DfPick (K : PySem.W.Frag) (mg : Str → Option Value) := Df K mg "_law_pick" sPick ["_law_tape", "_law_items"]
end DW
namespace DW
open PySem PySem.Spec PyProof.Rows L2 TL
set_option autoImplicit false
section
variable {P : Program} {w : World} {K : PySem.W.Frag} {mg : Str → Option Value} {base : Heap}
theorem scAlpha : FnScope ["_law_tape", "_law_letters", "_law_drawn", "_law_k"] ["_law_tape"] (defScope sAlpha) := ⟨rfl, rfl, rfl, by decide +kernel, rfl, by decide +kernel, by decide +kernel⟩
theorem ok_alpha (D : Df K mg "_law_alphabet" sAlpha ["_law_tape"]) (Dd : DfDraw K mg) (Dp : DfPick K mg) (B : Bl mg) : FnOk P w K mg base CX0 3 D.f D.fd ["_law_tape"] spAlpha := by
  have Gd : FnOk P w K mg base CX0 1 Dd.f Dd.fd ["_law_tape", "_law_many"] spDraw := ok_draw Dd B.len
  have Gp : FnOk P w K mg base CX0 2 Dp.f Dp.fd ["_law_tape", "_law_items"] (spPick K) := ok_pick Dp Dd B.len
  refine D.F.ok scAlpha (fun vs H Q E h => ?_) (fun cdv A outer s H vs Q E hr h => ?_)
  · obtain ⟨t, c, n, rfl, _⟩ := h
    rfl
  · obtain ⟨t, c, n, rfl, T, hn, k⟩ := h
    have hr1 : Room 1 _ := hr.mono (by decide)
    refine ⟨_, pss_cons (ps_set (i := 1) scAlpha.nd rfl (Or.inr rfl) pe_str)
      (pss_cons (ps_setLc (i := 2) (own := [("_law_k", 3)]) (g := gName 3) (tt := tYes) rfl scAlpha.nd rfl rfl (sw_true rfl rfl rfl (by decide +kernel))
        (pi_range1 rfl B.range (pa_cons (pe_op op_add pe_int (pe_call Gd hr1 (by rfl) Dd.g Dd.F.kp Dd.b .nil pass0 (pa_cons (pv 0) (pa_cons pe_int pa_nil)))) pa_nil))
        (blkOk_by (N := ["_law_tape", "_law_letters", "_law_drawn", "_law_k"]) (sc := defScope sAlpha) (by decide +kernel)) (fun _ _ _ _ _ => pg_name (i := 3) scAlpha.nd rfl (Or.inl rfl)) (fun _ _ _ _ _ => pts_nil)
        (fun _ _ _ _ _ => pe_ix ix_str (pv 1) (pe_call Gd hr1 (by rfl) Dd.g Dd.F.kp Dd.b .nil pass0 (pa_cons (pv 0) (pa_cons pe_int pa_nil))) (fun _ _ => rfl)))
      (pss_one (ps_ret (pe_call Gp hr (by rfl) Dp.g Dp.F.kp Dp.b .nil pass0 (pa_cons (pv 0) (pa_cons
        (pe_op op_cat (pe_lst (pa_cons pe_str (pa_cons pe_str (pa_cons pe_str (pa_cons pe_str (pa_cons pe_str pa_nil))))))
          (pe_op op_rep (pe_lst (pa_cons (pe_join pe_str (pe_callB (TX.cr_sortTx rfl) (by rfl) B.sorted (by decide +kernel) (pa_cons (pe_callTy (TX.cr_setL rfl) (by rfl) B.set (by decide +kernel) (pa_cons (pv 2) pa_nil)) pa_nil))) pa_nil)) pe_int)) pa_nil)))))), ?_⟩
    refine ⟨.ref t, rfl, t, c, 3, n, rfl, T, by omega, by decide, by decide, fun H1 r k1 T1 r0 r1 => ?_⟩
    refine ⟨1, r, rfl, rfl, 1 + r, rfl, by omega, by omega, fun D hD => ?_⟩
    have D1 := T1.ne1 hD
    have D2 := T1.ne2 hD
    have D0 := k1.gone hD
    refine lc_range (lo := 0) (n := (1 + r).toNat) (fun i H' => ∃ ds : List Nat, ds.length = i ∧ (∀ c ∈ ds, 97 ≤ c ∧ c ≤ 122) ∧ H' D = some (.lst ((ds.map one).map V.str)) ∧ Kp t H H' ∧ Tape H' t c (n + 1 + i)) ?_ ?_ ?_
    · exact ⟨[], rfl, fun c hc => (nomatch hc), upd_same, k1.put D0 D1, T1.upd D1 D2⟩
    · rintro i G hi ⟨ds, dl, low, gD, kG, TG⟩
      refine ⟨rfl, yes ?_⟩
      refine ⟨.str abc, rfl, .ref t, rfl, t, c, 26, n + 1 + i, rfl, TG, by omega, by decide, by decide, fun H4 q k4 T4 q0 q1 => ?_⟩
      have ql : q.toNat < (tl abc).length := by
        rw [abc_len]
        omega
      have gD4 := k4.at gD (fun _ z => by cases z)
      refine ⟨abc, q, (tl abc)[q.toNat], rfl, rfl, by decide +kernel, at_cp (j := q.toNat) (by omega) (List.getElem?_eq_getElem ql), _, gD4, ?_, ?_⟩
      · rw [List.length_map, List.length_map, dl, sizeLine_eq]
        omega
      · refine ⟨ds ++ [(tl abc)[q.toNat]], by rw [List.length_append, dl]; rfl, fun c hc => ?_, ?_, ?_, ?_⟩
        · rcases List.mem_append.mp hc with z | z
          · exact low c z
          · rw [List.mem_singleton.mp z]
            exact abc_low _ (List.getElem_mem ql)
        · rw [upd_same, List.map_append, List.map_append]
          rfl
        · exact (kG.trans k4).put D0 D1
        · exact T4.upd D1 D2
    · rintro G ⟨ds, dl, low, gD, kG, TG⟩
      refine ⟨.ref t, rfl, by show 5 ≤ sizeLine; decide, fun l1 e1 => ?_⟩
      have s1 := same_upd (o := .lst [V.str "ab", V.str "abc", V.str "a", V.str "bx", V.str "cmz"]) e1
      refine ⟨⟨_, rfl⟩, .ref D, rfl, D, ds.map one, rfl, SqL.of (s1 _ _ gD), ?_, fun a ls ea nd mem le => ?_⟩
      · rw [List.length_map, dl]
        unfold scanBound
        omega
      have s2 := same_upd (o := TX.SetTx P w a ls) ea
      refine ⟨a, ls, rfl, upd_same, ?_, fun ys p pm so ep => ?_⟩
      · rw [List.length_map] at le
        omega
      have al := alph_of (by omega) (by omega) low nd mem le pm so
      have s3 := same_upd (o := .lst (ys.map V.str)) ep
      refine ⟨"", p, ys, rfl, rfl, .inl (SqL.of upd_same), ?_, by show 1 ≤ sizeLine; decide, fun l2 e2 => ?_⟩
      · rw [sum_ones ys fun y hy => ?_]
        · rw [pm.length_eq]
          rw [List.length_map] at le
          show ls.length + ls.length * 0 ≤ 16777216
          omega
        · obtain ⟨u, _, e⟩ := List.mem_map.mp ((mem y).mp (pm.mem_iff.mp hy))
          exact ⟨u, e.symm⟩
      have s4 := same_upd (o := .lst [V.str (Txt.join "" ys)]) e2
      refine ⟨l2, 5, _, rfl, rfl, upd_same, by decide, by decide, by show 1 * 5 ≤ sizeLine; decide, fun l3 e3 => ?_⟩
      have s5 := same_upd (o := .lst (List.replicate (5 : Int).toNat [V.str (Txt.join "" ys)]).flatten) e3
      refine ⟨l1, l3, _, _, rfl, rfl, s5 _ _ (s4 _ _ (s3 _ _ (s2 _ _ upd_same))), upd_same, by show 5 + 5 ≤ sizeLine; decide, fun l4 e4 => ?_⟩
      have s6 := same_upd (o := .lst ([V.str "ab", V.str "abc", V.str "a", V.str "bx", V.str "cmz"] ++ (List.replicate (5 : Int).toNat [V.str (Txt.join "" ys)]).flatten)) e4
      have sa := ((((s1.trans s2).trans s3).trans s4).trans s5).trans s6
      refine ⟨t, c, n + 1 + (1 + r).toNat, .ref l4, rfl, TG.same sa, by omega, .inl ⟨l4, _, rfl, SqL.of upd_same, by simp, by show 10 < 2 ^ 30; decide, fun H' y k' T' hy => ?_⟩⟩
      have hy' : ∃ z, y = V.str z ∧ Alph z := by
        rcases List.mem_append.mp hy with q | q
        · simp only [List.mem_cons, List.not_mem_nil, or_false] at q
          rcases q with q | q | q | q | q
          · exact ⟨_, q, al1⟩
          · exact ⟨_, q, al2⟩
          · exact ⟨_, q, al3⟩
          · exact ⟨_, q, al4⟩
          · exact ⟨_, q, al5⟩
        · obtain ⟨u, hu, hy⟩ := List.mem_flatten.mp q
          rw [List.eq_of_mem_replicate hu] at hy
          exact ⟨_, List.mem_singleton.mp hy, al⟩
      obtain ⟨z, rfl, az⟩ := hy'
      exact k H' z ((kG.trans (TG.kp sa)).trans k') (T'.mono (by omega)) az
end
end DW
namespace DW
open PySem PySem.Spec PyProof.Rows L2 TL
set_option autoImplicit false
/-! ### text * int, repr(text) -/
theorem foldl_app : ∀ (l : List (Array Nat)) (acc : Array Nat), (l.foldl (· ++ ·) acc).toList = acc.toList ++ (l.map Array.toList).flatten
  | [], acc => by simp
  | a :: r, acc => by
    rw [List.foldl_cons, foldl_app r, Array.toList_append, List.map_cons, List.flatten_cons, List.append_assoc]
theorem tl_mul (z : Str) (k : Int) : tl (Txt.mul z k) = (List.replicate k.toNat (tl z)).flatten := by
  unfold Txt.mul
  by_cases h : k < 1
  · rw [if_pos h, show k.toNat = 0 by omega]
    rfl
  · rw [if_neg h]
    by_cases h2 : (k == 1 || z.length == 0) = true
    · rw [if_pos h2]
      rw [Bool.or_eq_true] at h2
      rcases h2 with e | e
      · rw [eq_of_beq e]
        simp
      · have e0 : tl z = [] := List.length_eq_zero_iff.mp (by rw [Array.length_toList]; exact eq_of_beq e)
        rw [e0]
        simp
    · rw [if_neg h2]
      show ((List.replicate k.toNat z.cps).foldl (· ++ ·) #[]).toList = _
      rw [foldl_app, List.map_replicate]
      simp
section
variable {X : Cx}
def rRepS : R2 := fun x y H Q => ∃ (z : Str) (k : Int), x = .str z ∧ y = .int k ∧ 0 ≤ k ∧ k ≤ 1000 ∧ z.length ≤ 1000 ∧ ∀ r : Str, tl r = (List.replicate k.toNat (tl z)).flatten → Q (.str r) H
theorem op_repS : OpR X (binaryOp .Mult) rRepS := by
  intro pins s σ H x y v u Q I rx ry h
  obtain ⟨z, k, rfl, rfl, k0, k1, zl, q⟩ := h
  obtain ⟨t, rfl⟩ := rx
  obtain ⟨t2, rfl⟩ := ry
  have pr : z.length * k.toNat ≤ 1000 * 1000 := Nat.mul_le_mul zl (by omega)
  refine SB.mul ⟨?_, fun h1 _ h3 => ?_, fun _ _ => ?_⟩ fun t' tk => ⟨.str (Txt.mul z k), H, I.tok _, ⟨_, rfl⟩, q _ (tl_mul z k)⟩
  · have a : ¬ k < -(2 ^ 63) := by omega
    have b : ¬ k ≥ 2 ^ 63 := by omega
    simp [a, b]
    omega
  · have e : (z.length : Int) ≤ (2 ^ 63 - 1) / k := by
      rw [Int.le_ediv_iff_mul_le (by omega)]
      have : ((z.length * k.toNat : Nat) : Int) ≤ 1000 * 1000 := by exact_mod_cast pr
      rw [Int.natCast_mul, Int.toNat_of_nonneg k0] at this
      omega
    omega
  · unfold Builtin.Str.tooLong
    rw [sizeLine_eq]
    simp
    omega
theorem cr_reprS : CallR X (.builtin "repr") (fun xs H Q => ∃ y : Str, xs = [.str y] ∧ (reprText y).length ≤ sizeLine ∧ Q (.str (reprText y)) H) := by
  intro pins s σ H xs us Q I r h
  obtain ⟨y, rfl, hz, q⟩ := h
  obtain ⟨u, rfl, t, rfl⟩ := vals1 r
  exact PySem.P.repr_of_str ⟨.str _, H, I.tok _, ⟨_, rfl⟩, q⟩ hz
end
theorem rc_le : ∀ c, c < 128 → (Builtin.Str.reprChar 34 c).length ≤ 4 ∧ (Builtin.Str.reprChar 39 c).length ≤ 4 := by decide +kernel
theorem rq (x : Str) : reprQuote x = 34 ∨ reprQuote x = 39 := by
  unfold reprQuote
  split
  · exact .inl rfl
  · exact .inr rfl
theorem repr_fold (q : Nat) (hq : q = 34 ∨ q = 39) : ∀ (l : List Nat) (n : Nat), (∀ c ∈ l, c < 128) → l.foldl (fun n c => n + (Builtin.Str.reprChar q c).length) n ≤ n + 4 * l.length
  | [], n, _ => by simp
  | c :: r, n, h => by
    have h1 := rc_le c (h c List.mem_cons_self)
    have h2 : (Builtin.Str.reprChar q c).length ≤ 4 := by
      rcases hq with e | e
      · rw [e]; exact h1.1
      · rw [e]; exact h1.2
    have ih := repr_fold q hq r (n + (Builtin.Str.reprChar q c).length) fun d hd => h d (List.mem_cons_of_mem _ hd)
    rw [List.foldl_cons, List.length_cons]
    omega
theorem repr_le {x : Str} (h : ∀ c ∈ tl x, c < 128) : (reprText x).length ≤ 2 + 4 * (tl x).length := by
  rw [← reprLen_eq, ← Array.foldl_toList]
  exact repr_fold _ (rq x) _ _ h
/-! ### factors, products -/
abbrev Fc := Bool × Str
def kd (b : Bool) : Str := if b then "star" else "opt"
def IsF (K : PySem.W.Frag) (H : Hp) (v : V) (f : Fc) : Prop := ∃ a, v = .ref a ∧ SqT K H a [.str (kd f.1), .str f.2]
def FOk (z : Str) (f : Fc) : Prop := tl f.2 ≠ [] ∧ (tl f.2).Sublist (tl z) ∧ (f.1 = false → (tl f.2).length = 1)
inductive IsFs (K : PySem.W.Frag) (H : Hp) : List V → List Fc → Prop where
  | nil : IsFs K H [] []
  | cons {v : V} {f : Fc} {vs : List V} {fs : List Fc} (h : IsF K H v f) (r : IsFs K H vs fs) : IsFs K H (v :: vs) (f :: fs)
theorem IsFs.snoc {K : PySem.W.Frag} {H : Hp} {v : V} {f : Fc} : ∀ {vs : List V} {fs : List Fc}, IsFs K H vs fs → IsF K H v f → IsFs K H (vs ++ [v]) (fs ++ [f])
  | _, _, .nil, h => .cons h .nil
  | _, _, .cons a r, h => .cons a (r.snoc h)
theorem IsFs.len {K : PySem.W.Frag} {H : Hp} : ∀ {vs : List V} {fs : List Fc}, IsFs K H vs fs → vs.length = fs.length
  | _, _, .nil => rfl
  | _, _, .cons _ r => by rw [List.length_cons, List.length_cons, r.len]
theorem IsFs.get {K : PySem.W.Frag} {H : Hp} : ∀ {vs : List V} {fs : List Fc}, IsFs K H vs fs → ∀ (i : Nat) (v : V), vs[i]? = some v → ∃ f, fs[i]? = some f ∧ IsF K H v f
  | _, _, .nil, i, v, h => by simp at h
  | _, _, .cons a r, 0, v, h => by
    have e := Option.some.inj h
    subst e
    exact ⟨_, rfl, a⟩
  | _, _, .cons a r, i + 1, v, h => r.get i v h
theorem IsF.mono {K : PySem.W.Frag} {H H' : Hp} {v : V} {f : Fc} (h : IsF K H v f) (m : ∀ b xs, SqT K H b xs → SqT K H' b xs) : IsF K H' v f := by
  obtain ⟨a, e, q⟩ := h
  exact ⟨a, e, m _ _ q⟩
theorem IsFs.mono {K : PySem.W.Frag} {H H' : Hp} (m : ∀ b xs, SqT K H b xs → SqT K H' b xs) : ∀ {vs : List V} {fs : List Fc}, IsFs K H vs fs → IsFs K H' vs fs
  | _, _, .nil => .nil
  | _, _, .cons a r => .cons (a.mono m) (r.mono m)
theorem same_tup {H H' : Hp} {K : PySem.W.Frag} (s : Same H H') (b : Addr) (xs : List V) (h : SqT K H b xs) : SqT K H' b xs := by
  rcases h with (h | ⟨o, h⟩) | h
  · exact .inl (.inl (s _ _ h))
  · exact .inl (.inr ⟨o, s _ _ h⟩)
  · exact .inr h
theorem kp_tup {t : Addr} {H H' : Hp} {K : PySem.W.Frag} (k : Kp t H H') (b : Addr) (xs : List V) (h : SqT K H b xs) : SqT K H' b xs := k.tup h
/-- a store at what is no tuple -/
theorem upd_tup {H : Hp} {D : Addr} {xs0 : List V} {o : HO} {K : PySem.W.Frag} (hD : H D = some (.lst xs0)) (b : Addr) (xs : List V) (h : SqT K H b xs) : SqT K (upd H D o) b xs := by
  rcases h with (h | ⟨u, h⟩) | h
  · exact .inl (.inl ((upd_ne (ne_of h hD (by intro z; cases z))).trans h))
  · exact .inl (.inr ⟨u, (upd_ne (ne_of h hD (by intro z; cases z))).trans h⟩)
  · exact .inr h
def IsP (K : PySem.W.Frag) (H : Hp) (v : V) (fs : List Fc) : Prop := ∃ a xs, v = .ref a ∧ SqT K H a xs ∧ IsFs K H xs fs
theorem IsP.mono {K : PySem.W.Frag} {H H' : Hp} {v : V} {fs : List Fc} (h : IsP K H v fs) (m : ∀ b xs, SqT K H b xs → SqT K H' b xs) : IsP K H' v fs := by
  obtain ⟨a, xs, e, q, r⟩ := h
  exact ⟨a, xs, e, m _ _ q, r.mono m⟩
def spFactor (K : PySem.W.Frag) : Sp := fun vs H Q _ => ∃ (t c : Addr) (n : Nat) (z : Str), vs = [.ref t, .str z] ∧ Tape H t c n ∧ n + 10 < 2 ^ 40 ∧ Alph z ∧ ∀ H' v f, Kp t H H' → Tape H' t c (n + 10) → IsF K H' v f → FOk z f → Q v H'
def spProduct (K : PySem.W.Frag) : Sp := fun vs H Q _ => ∃ (t c : Addr) (n : Nat) (z : Str) (m : Int), vs = [.ref t, .str z, .int m] ∧ Tape H t c n ∧ n + 1000 < 2 ^ 40 ∧ Alph z ∧ 0 ≤ m ∧ m ≤ 50 ∧
  ∀ H' v fs, Kp t H H' → Tape H' t c (n + 1000) → IsP K H' v fs → (∀ f ∈ fs, FOk z f) → (fs.length : Int) ≤ m → Q v H'
end DW
namespace DW
open PySem PySem.Spec PyProof.Rows L2 TL
set_option autoImplicit false
/-! ### unfoldings -/
theorem upd_upd2 {H : Hp} {d : Addr} {o u : HO} : upd (upd H d o) d u = upd H d u := by
  funext b
  by_cases e : b = d
  · rw [e, upd_same, upd_same]
  · rw [upd_ne e, upd_ne e, upd_ne e]
def piece (m : Nat) (f : Fc) : List Nat := if f.1 = true then (List.replicate m (tl f.2)).flatten else tl f.2
def unf (fs : List Fc) (m : Nat) : List Nat := (fs.map (piece m)).flatten
theorem piece_len {m : Nat} {f : Fc} (hm : m ≤ 1000) (h : (tl f.2).length ≤ 3) : (piece m f).length ≤ 3000 := by
  unfold piece
  by_cases e : f.1 = true
  · rw [if_pos e, List.length_flatten, List.map_replicate, List.sum_replicate_nat]
    have := Nat.mul_le_mul hm h
    omega
  · rw [if_neg e]
    omega
theorem unf_len {m : Nat} (hm : m ≤ 1000) : ∀ fs : List Fc, (∀ f ∈ fs, (tl f.2).length ≤ 3) → (unf fs m).length ≤ 3000 * fs.length
  | [], _ => Nat.le_refl _
  | f :: r, h => by
    have ih := unf_len hm r fun g hg => h g (List.mem_cons_of_mem _ hg)
    have h1 := piece_len hm (h f List.mem_cons_self)
    have e : (unf (f :: r) m).length = (piece m f).length + (unf r m).length := by
      unfold unf
      rw [List.map_cons, List.flatten_cons, List.length_append]
    rw [List.length_cons, e]
    omega
theorem sum_lens (ys : List Str) : (ys.map (·.length)).sum = ((ys.map tl).flatten).length := by
  rw [List.length_flatten, List.map_map]
  exact congrArg List.sum (List.map_congr_left fun y _ => (Array.length_toList).symm)
theorem unf_snoc (fs : List Fc) (m : Nat) {i : Nat} {f : Fc} (h : fs[i]? = some f) : unf (fs.take (i + 1)) m = unf (fs.take i) m ++ piece m f := by
  unfold unf
  rw [List.take_add_one, h]
  simp
theorem kd_opt (b : Bool) : decide (V.str (kd b) = V.str "opt") = !b := by
  cases b
  · exact decide_eq_true rfl
  · exact decide_eq_false (by unfold kd; decide +kernel)
def spUnfold (K : PySem.W.Frag) : Sp := fun vs H Q _ => ∃ (v : V) (fs : List Fc) (m : Int), vs = [v, .int m] ∧ IsP K H v fs ∧ (∀ f ∈ fs, (tl f.2).length ≤ 3) ∧ fs.length ≤ 100 ∧ 0 ≤ m ∧ m ≤ 1000 ∧
  ∀ H' r, Same H H' → tl r = unf fs m.toNat → Q (.str r) H'
end DW
namespace DW
open PySem PySem.Spec PyProof.Rows L2 TL
set_option autoImplicit false
theorem tl_app (x y : Str) : tl (x ++ y) = tl x ++ tl y := Array.toList_append
def OverW (z : Str) (u : Str) : Prop := ∀ c ∈ tl u, c ∈ tl z
/-! ### the language of a product -/
abbrev ls (f : Fc) : List Nat := tl f.2
inductive Lg : List Fc → List Nat → Prop where
  | nil : Lg [] []
  | skip {f : Fc} {fs : List Fc} {w : List Nat} (h : Lg fs w) : Lg (f :: fs) w
  | opt {f : Fc} {fs : List Fc} {c : Nat} {w : List Nat} (k : f.1 = false) (m : c ∈ ls f) (h : Lg fs w) : Lg (f :: fs) (c :: w)
  | star {f : Fc} {fs : List Fc} {c : Nat} {w : List Nat} (k : f.1 = true) (m : c ∈ ls f) (h : Lg (f :: fs) w) : Lg (f :: fs) (c :: w)
theorem Lg.empty : ∀ fs : List Fc, Lg fs []
  | [] => .nil
  | _ :: fs => .skip (Lg.empty fs)
theorem Lg.tail {fs : List Fc} {c : Nat} {w : List Nat} (h : Lg fs (c :: w)) : Lg fs w := by
  generalize e : c :: w = u at h
  induction h with
  | nil => cases e
  | skip h ih => exact .skip (ih e)
  | opt k m h ih =>
    cases e
    exact .skip h
  | star k m h ih =>
    cases e
    exact h
theorem Lg.drop {fs : List Fc} : ∀ {u v : List Nat}, Lg fs (u ++ v) → Lg fs v
  | [], _, h => h
  | _ :: _, _, h => Lg.drop (Lg.tail h)
theorem Lg.init {fs : List Fc} {u v : List Nat} (h : Lg fs (u ++ v)) : Lg fs u := by
  generalize e : u ++ v = x at h
  induction h generalizing u with
  | nil =>
    obtain ⟨rfl, _⟩ := List.append_eq_nil_iff.mp e
    exact .nil
  | skip h ih => exact .skip (ih e)
  | opt k m h ih =>
    cases u with
    | nil => exact Lg.empty _
    | cons d u =>
      obtain ⟨rfl, e2⟩ := List.cons.inj e
      exact .opt k m (ih e2)
  | star k m h ih =>
    cases u with
    | nil => exact Lg.empty _
    | cons d u =>
      obtain ⟨rfl, e2⟩ := List.cons.inj e
      exact .star k m (ih e2)
theorem Lg.has {fs : List Fc} {c : Nat} {w : List Nat} (h : Lg fs (c :: w)) : ∃ g ∈ fs, c ∈ ls g := by
  generalize e : c :: w = u at h
  induction h with
  | nil => cases e
  | skip h ih =>
    obtain ⟨g, hg, hc⟩ := ih e
    exact ⟨g, List.mem_cons_of_mem _ hg, hc⟩
  | opt k m h ih =>
    cases e
    exact ⟨_, List.mem_cons_self, m⟩
  | star k m h ih =>
    cases e
    exact ⟨_, List.mem_cons_self, m⟩
theorem Lg.app {fs gs : List Fc} {u v : List Nat} (h1 : Lg fs u) (h2 : Lg gs v) : Lg (fs ++ gs) (u ++ v) := by
  induction h1 with
  | nil => exact h2
  | skip h ih => exact .skip ih
  | opt k m h ih => exact .opt k m ih
  | star k m h ih => exact .star k m ih
theorem Lg.split {gs : List Fc} : ∀ {fs : List Fc} {w : List Nat}, Lg (fs ++ gs) w → ∃ u v, w = u ++ v ∧ Lg fs u ∧ Lg gs v := by
  intro fs w h
  generalize e : fs ++ gs = hs at h
  induction h generalizing fs with
  | nil =>
    obtain ⟨rfl, rfl⟩ := List.append_eq_nil_iff.mp e
    exact ⟨[], [], rfl, .nil, .nil⟩
  | @skip f hs w h ih =>
    cases fs with
    | nil =>
      have e' : gs = f :: hs := e
      exact ⟨[], w, rfl, .nil, by rw [e']; exact .skip h⟩
    | cons f' fs =>
      obtain ⟨rfl, e2⟩ := List.cons.inj e
      obtain ⟨u, v, rfl, h1, h2⟩ := ih e2
      exact ⟨u, v, rfl, .skip h1, h2⟩
  | @opt f hs c w k m h ih =>
    cases fs with
    | nil =>
      have e' : gs = f :: hs := e
      exact ⟨[], c :: w, rfl, .nil, by rw [e']; exact .opt k m h⟩
    | cons f' fs =>
      obtain ⟨rfl, e2⟩ := List.cons.inj e
      obtain ⟨u, v, rfl, h1, h2⟩ := ih e2
      exact ⟨c :: u, v, rfl, .opt k m h1, h2⟩
  | @star f hs c w k m h ih =>
    cases fs with
    | nil =>
      have e' : gs = f :: hs := e
      exact ⟨[], c :: w, rfl, .nil, by rw [e']; exact .star k m h⟩
    | cons f' fs =>
      obtain ⟨rfl, e2⟩ := List.cons.inj e
      obtain ⟨u, v, rfl, h1, h2⟩ := ih (fs := f' :: fs) e
      exact ⟨c :: u, v, rfl, .star k m h1, h2⟩
theorem Lg.one_star {f : Fc} (k : f.1 = true) : ∀ {w : List Nat}, Lg [f] w ↔ ∀ c ∈ w, c ∈ ls f := by
  intro w
  constructor
  · intro h
    generalize e : [f] = hs at h
    induction h with
    | nil => intro c hc; cases hc
    | skip h ih =>
      obtain ⟨rfl, rfl⟩ := List.cons.inj e
      cases h
      intro c hc
      cases hc
    | opt k' m h ih =>
      obtain ⟨rfl, rfl⟩ := List.cons.inj e
      rw [k] at k'
      cases k'
    | star k' m h ih =>
      intro c hc
      rcases List.mem_cons.mp hc with q | q
      · obtain ⟨rfl, rfl⟩ := List.cons.inj e
        rw [q]
        exact m
      · exact ih e c q
  · intro h
    induction w with
    | nil => exact Lg.empty _
    | cons c w ih => exact .star k (h c List.mem_cons_self) (ih fun d hd => h d (List.mem_cons_of_mem _ hd))
theorem Lg.one_opt {f : Fc} (k : f.1 = false) {w : List Nat} (h : Lg [f] w) : w = [] ∨ ∃ c ∈ ls f, w = [c] := by
  cases h with
  | skip h =>
    cases h
    exact .inl rfl
  | opt k' m h =>
    cases h
    exact .inr ⟨_, m, rfl⟩
  | star k' m h =>
    rw [k] at k'
    cases k'
/-- a word behind a factor more -/
theorem Lg.snoc {fs : List Fc} {f : Fc} {u : List Nat} : Lg (fs ++ [f]) u ↔ Lg fs u ∨ ∃ u' c, u = u' ++ [c] ∧ c ∈ ls f ∧ (if f.1 = true then Lg (fs ++ [f]) u' else Lg fs u') := by
  constructor
  · intro h
    obtain ⟨a, b, rfl, h1, h2⟩ := h.split
    by_cases k : f.1 = true
    · have q := (Lg.one_star k).mp h2
      rcases List.eq_nil_or_concat b with e | ⟨b', c, e⟩
      · left
        rw [e, List.append_nil]
        exact h1
      · right
        rw [List.concat_eq_append] at e
        refine ⟨a ++ b', c, by rw [e, List.append_assoc], q c (by rw [e]; simp), ?_⟩
        rw [if_pos k]
        exact Lg.app h1 ((Lg.one_star k).mpr fun d hd => q d (by rw [e]; simp [hd]))
    · rcases Lg.one_opt (by simpa using k) h2 with e | ⟨c, hc, e⟩
      · left
        rw [e, List.append_nil]
        exact h1
      · right
        exact ⟨a, c, by rw [e], hc, by rw [if_neg k]; exact h1⟩
  · rintro (h | ⟨u', c, rfl, hc, h⟩)
    · have := Lg.app h (Lg.empty [f])
      rw [List.append_nil] at this
      exact this
    · by_cases k : f.1 = true
      · rw [if_pos k] at h
        obtain ⟨a, b, rfl, h1, h2⟩ := h.split
        rw [List.append_assoc]
        refine Lg.app h1 ((Lg.one_star k).mpr fun d hd => ?_)
        rcases List.mem_append.mp hd with q | q
        · exact (Lg.one_star k).mp h2 d q
        · rw [List.mem_singleton.mp q]
          exact hc
      · rw [if_neg k] at h
        exact Lg.app h (.opt (by simpa using k) hc .nil)
theorem Lg.unf (m : Nat) : ∀ fs : List Fc, (∀ f ∈ fs, f.1 = false → (ls f).length = 1) → Lg fs (DW.unf fs m)
  | [], _ => .nil
  | f :: fs, h => by
    have ih := Lg.unf m fs fun g hg => h g (List.mem_cons_of_mem _ hg)
    have e : DW.unf (f :: fs) m = piece m f ++ DW.unf fs m := rfl
    rw [e]
    refine Lg.app (fs := [f]) ?_ ih
    unfold piece
    by_cases k : f.1 = true
    · rw [if_pos k]
      refine (Lg.one_star k).mpr fun c hc => ?_
      obtain ⟨l, hl, hc⟩ := List.mem_flatten.mp hc
      rw [List.eq_of_mem_replicate hl] at hc
      exact hc
    · rw [if_neg k]
      have k' : f.1 = false := by simpa using k
      have l1 := h f List.mem_cons_self k'
      obtain ⟨c, e⟩ := List.length_eq_one_iff.mp l1
      have e' : tl f.2 = [c] := e
      rw [e']
      exact .opt k' (by show c ∈ tl f.2; rw [e']; simp) .nil
/-! ### inclusion, factor by factor -/
def sw (g f : Fc) : Bool := g.1 && (ls f).all fun c => decide (c ∈ ls g)
def cov (g f : Fc) : Bool := decide (g = f) || sw g f
def inc : List Fc → List Fc → Bool
  | _, [] => true
  | [], _ :: _ => false
  | g :: q, f :: p => if cov g f = true then (if g.1 = true then inc (g :: q) p else inc q p) else inc q (f :: p)
termination_by q p => q.length + p.length
def W1 (fs : List Fc) : Prop := ∀ f ∈ fs, ls f ≠ [] ∧ (f.1 = false → (ls f).length = 1)
theorem cov_sub {g f : Fc} (h : cov g f = true) (k : g.1 = true) : ∀ c ∈ ls f, c ∈ ls g := by
  intro c hc
  unfold cov at h
  rw [Bool.or_eq_true] at h
  rcases h with e | e
  · rw [of_decide_eq_true e]
    exact hc
  · unfold sw at e
    rw [Bool.and_eq_true, List.all_eq_true] at e
    exact of_decide_eq_true (e.2 c hc)
theorem cov_opt {g f : Fc} (h : cov g f = true) (k : g.1 = false) : g = f := by
  unfold cov at h
  rw [Bool.or_eq_true] at h
  rcases h with e | e
  · exact of_decide_eq_true e
  · unfold sw at e
    rw [k] at e
    cases e
theorem inc_sound : ∀ (q p : List Fc), inc q p = true → ∀ w, Lg p w → Lg q w
  | q, [], _, w, h => by
    cases h
    exact Lg.empty q
  | [], f :: p, h, w, _ => by
    unfold inc at h
    cases h
  | g :: q, f :: p, h, w, hw => by
    unfold inc at h
    by_cases c : cov g f = true
    · rw [if_pos c] at h
      by_cases k : g.1 = true
      · rw [if_pos k] at h
        have ih := inc_sound (g :: q) p h
        have sub := cov_sub c k
        generalize e : f :: p = fp at hw
        induction hw with
        | nil => cases e
        | skip h1 _ =>
          cases e
          exact ih _ h1
        | opt _ m h1 _ =>
          cases e
          exact .star k (sub _ m) (ih _ h1)
        | star _ m h1 ih1 =>
          cases e
          exact .star k (sub _ m) (ih1 rfl)
      · rw [if_neg k] at h
        have k' : g.1 = false := by simpa using k
        have ih := inc_sound q p h
        have e := cov_opt c k'
        subst e
        cases hw with
        | skip h1 => exact .skip (ih _ h1)
        | opt k2 m h1 => exact .opt k2 m (ih _ h1)
        | star k2 m h1 =>
          rw [k'] at k2
          cases k2
    · rw [if_neg c] at h
      exact .skip (inc_sound q (f :: p) h w hw)
termination_by q p => q.length + p.length
/-! ### a word that repeats letters in turn -/
def Per (L : List Nat) (o : Nat) (v : List Nat) : Prop := ∀ k : Nat, k < v.length → v[k]? = L[(o + k) % L.length]?
theorem Per.tail {L u v : List Nat} {o : Nat} (h : Per L o (u ++ v)) : Per L (o + u.length) v := fun k hk => by
  have q := h (u.length + k) (by rw [List.length_append]; omega)
  rw [List.getElem?_append_right (by omega), show u.length + k - u.length = k by omega] at q
  rw [q, Nat.add_assoc]
theorem Per.head {L u v : List Nat} {o : Nat} (h : Per L o (u ++ v)) : Per L o u := fun k hk => by
  have q := h k (by rw [List.length_append]; omega)
  rw [List.getElem?_append_left hk] at q
  exact q
theorem Per.all {L v : List Nat} {o : Nat} (h0 : L ≠ []) (h : Per L o v) (hl : L.length ≤ v.length) : ∀ c ∈ L, c ∈ v := by
  intro c hc
  obtain ⟨i, hi, e⟩ := List.mem_iff_getElem.mp hc
  have lp : 0 < L.length := List.length_pos_iff.mpr h0
  have om := Nat.mod_lt o lp
  -- k with (o + k) % |L| = i
  have : ∃ k, k < L.length ∧ (o + k) % L.length = i := by
    by_cases c : o % L.length ≤ i
    · refine ⟨i - o % L.length, by omega, ?_⟩
      rw [Nat.add_mod, Nat.mod_eq_of_lt (show i - o % L.length < L.length by omega)]
      rw [show o % L.length + (i - o % L.length) = i by omega, Nat.mod_eq_of_lt hi]
    · refine ⟨i + L.length - o % L.length, by omega, ?_⟩
      rw [Nat.add_mod, Nat.mod_eq_of_lt (show i + L.length - o % L.length < L.length by omega)]
      rw [show o % L.length + (i + L.length - o % L.length) = i + L.length by omega, Nat.add_mod_right, Nat.mod_eq_of_lt hi]
  obtain ⟨k, hk, ek⟩ := this
  have q := h k (by omega)
  rw [ek, List.getElem?_eq_getElem hi, e] at q
  exact List.mem_of_getElem? q
theorem Per.bound {f : Fc} (h0 : ls f ≠ []) : ∀ (q : List Fc), (∀ g ∈ q, cov g f = false) → ∀ (v : List Nat) (o : Nat), Per (ls f) o v → Lg q v → v.length ≤ q.length * (ls f).length
  | [], _, v, o, _, h => by
    cases h
    exact Nat.zero_le _
  | g :: q, hq, v, o, hp, h => by
    obtain ⟨a, b, rfl, h1, h2⟩ := Lg.split (fs := [g]) h
    have ih := Per.bound h0 q (fun g hg => hq g (List.mem_cons_of_mem _ hg)) b _ hp.tail h2
    have al : a.length ≤ (ls f).length := by
      have lp : 0 < (ls f).length := List.length_pos_iff.mpr h0
      by_cases k : g.1 = true
      · have sub := (Lg.one_star k).mp h1
        by_cases c : (ls f).length ≤ a.length
        · have al := hp.head.all h0 c
          have cv : cov g f = true := by
            unfold cov sw
            rw [Bool.or_eq_true]
            right
            rw [k, Bool.true_and, List.all_eq_true]
            exact fun c hc => decide_eq_true (sub c (al c hc))
          rw [hq g List.mem_cons_self] at cv
          cases cv
        · omega
      · rcases Lg.one_opt (by simpa using k) h1 with e | ⟨c, _, e⟩
        · rw [e]
          exact Nat.zero_le _
        · rw [e]
          exact lp
    rw [List.length_append, List.length_cons, Nat.succ_mul]
    omega
theorem per_rep (L : List Nat) (m : Nat) : Per L 0 (List.replicate m L).flatten := by
  induction m with
  | zero =>
    intro k hk
    exact absurd hk (Nat.not_lt_zero _)
  | succ m ih =>
    intro k hk
    rw [List.replicate_succ, List.flatten_cons]
    by_cases c : k < L.length
    · rw [List.getElem?_append_left c, Nat.zero_add, Nat.mod_eq_of_lt c]
    · rw [List.getElem?_append_right (by omega)]
      have q := ih (k - L.length) (by
        rw [List.replicate_succ, List.flatten_cons, List.length_append] at hk
        omega)
      rw [q, Nat.zero_add, Nat.zero_add]
      congr 1
      rw [← Nat.mod_eq_sub_mod (by omega)]
theorem rep_len (L : List Nat) (m : Nat) : (List.replicate m L).flatten.length = m * L.length := by
  rw [List.length_flatten, List.map_replicate, List.sum_replicate_nat]
/-- skipping factors that do not cover -/
theorem inc_skip {f : Fc} {p : List Fc} : ∀ {a b : List Fc}, (∀ g ∈ a, cov g f = false) → inc (a ++ b) (f :: p) = inc b (f :: p)
  | [], _, _ => rfl
  | g :: a, b, h => by
    rw [List.cons_append]
    rw [show inc (g :: (a ++ b)) (f :: p) = inc (a ++ b) (f :: p) by
      conv => lhs; unfold inc
      rw [if_neg (by rw [h g List.mem_cons_self]; simp)]]
    exact inc_skip fun g hg => h g (List.mem_cons_of_mem _ hg)
theorem first_cov (f : Fc) : ∀ q : List Fc, (∀ g ∈ q, cov g f = false) ∨ ∃ a g b, q = a ++ g :: b ∧ (∀ h ∈ a, cov h f = false) ∧ cov g f = true
  | [] => .inl fun g hg => (nomatch hg)
  | g :: q => by
    by_cases c : cov g f = true
    · exact .inr ⟨[], g, q, rfl, fun h hh => (nomatch hh), c⟩
    · have c' : cov g f = false := by simpa using c
      rcases first_cov f q with h | ⟨a, g', b, rfl, h1, h2⟩
      · left
        intro h' hh
        rcases List.mem_cons.mp hh with e | e
        · rw [e]; exact c'
        · exact h h' e
      · right
        refine ⟨g :: a, g', b, rfl, fun h hh => ?_, h2⟩
        rcases List.mem_cons.mp hh with e | e
        · rw [e]; exact c'
        · exact h1 h e
theorem inc_complete (m : Nat) : ∀ (p q : List Fc), W1 p → W1 q → q.length < m → Lg q (DW.unf p m) → inc q p = true
  | [], q, _, _, _, _ => by
    cases q <;> (unfold inc; rfl)
  | f :: p, q, wp, wq, hm, h => by
    have wp' : W1 p := fun g hg => wp g (List.mem_cons_of_mem _ hg)
    obtain ⟨n0, n1⟩ := wp f List.mem_cons_self
    have e : DW.unf (f :: p) m = piece m f ++ DW.unf p m := rfl
    rw [e] at h
    have lp : 0 < (ls f).length := List.length_pos_iff.mpr n0
    -- the factors that do not cover take at most |q| copies
    have key : ∀ a b, q = a ++ b → (∀ g ∈ a, cov g f = false) → ∃ v, v ≠ [] ∧ (∀ c ∈ v, c ∈ ls f) ∧ Lg b (v ++ DW.unf p m) := by
      intro a b eq ha
      rw [eq] at h
      obtain ⟨u, v, euv, h1, h2⟩ := h.split
      have la : a.length ≤ q.length := by rw [eq, List.length_append]; omega
      by_cases k : f.1 = true
      · have ep : piece m f = (List.replicate m (ls f)).flatten := by unfold piece; rw [if_pos k]
        rw [ep] at euv
        have pr := per_rep (ls f) m
        have lu : u.length < (List.replicate m (ls f)).flatten.length := by
          rw [rep_len]
          apply Decidable.byContradiction
          intro hc
          -- then all copies lie within u
          have hu : ∃ t, u = (List.replicate m (ls f)).flatten ++ t := by
            have q1 : (List.replicate m (ls f)).flatten <+: u ++ v := ⟨_, euv⟩
            have q2 : u <+: u ++ v := List.prefix_append _ _
            have q3 := List.prefix_of_prefix_length_le q1 q2 (by rw [rep_len]; omega)
            obtain ⟨t, et⟩ := q3
            exact ⟨t, et.symm⟩
          obtain ⟨t, rfl⟩ := hu
          have h3 : Lg a (List.replicate m (ls f)).flatten := by
            exact Lg.init h1
          have bd := Per.bound n0 a ha _ 0 pr h3
          rw [rep_len] at bd
          have : a.length * (ls f).length < m * (ls f).length := Nat.mul_lt_mul_of_pos_right (by omega) lp
          omega
        obtain ⟨t, et⟩ : ∃ t, (List.replicate m (ls f)).flatten = u ++ t := by
          have q1 : (List.replicate m (ls f)).flatten <+: u ++ v := ⟨_, euv⟩
          have q2 : u <+: u ++ v := List.prefix_append _ _
          obtain ⟨t, et⟩ := List.prefix_of_prefix_length_le q2 q1 (by omega)
          exact ⟨t, et.symm⟩
        have ev : v = t ++ DW.unf p m := by
          rw [et, List.append_assoc] at euv
          exact (List.append_cancel_left euv).symm
        refine ⟨t, fun z => ?_, fun c hc => ?_, by rw [← ev]; exact h2⟩
        · rw [z, List.append_nil] at et
          rw [et] at lu
          omega
        · have : c ∈ (List.replicate m (ls f)).flatten := by rw [et]; exact List.mem_append_right _ hc
          obtain ⟨l, hl, hc⟩ := List.mem_flatten.mp this
          rw [List.eq_of_mem_replicate hl] at hc
          exact hc
      · have k' : f.1 = false := by simpa using k
        obtain ⟨c, ec⟩ := List.length_eq_one_iff.mp (n1 k')
        have ec' : tl f.2 = [c] := ec
        have ep : piece m f = [c] := by unfold piece; rw [if_neg k, ec']
        rw [ep] at euv
        cases u with
        | nil => exact ⟨[c], by simp, fun d hd => by rw [List.mem_singleton.mp hd]; show c ∈ tl f.2; rw [ec']; simp, by rw [euv]; exact h2⟩
        | cons d u =>
          -- a takes the letter: one of its factors covers f
          exfalso
          have ed : c = d := (List.cons.inj euv).1
          subst ed
          obtain ⟨g, hg, hc⟩ := Lg.has h1
          have hq : g ∈ q := by rw [eq]; exact List.mem_append_left _ hg
          have cv : cov g f = true := by
            unfold cov
            rw [Bool.or_eq_true]
            by_cases kg : g.1 = true
            · right
              unfold sw
              rw [kg, Bool.true_and, List.all_eq_true]
              intro d hd
              have : d ∈ [c] := by rw [← ec']; exact hd
              rw [List.mem_singleton.mp this]
              exact decide_eq_true hc
            · left
              have kg' : g.1 = false := by simpa using kg
              obtain ⟨d, ed⟩ := List.length_eq_one_iff.mp ((wq g hq).2 kg')
              have hc' : c ∈ ls g := hc
              rw [ed] at hc'
              have e2 : tl g.2 = tl f.2 := by
                rw [ec']
                show ls g = [c]
                rw [ed, List.mem_singleton.mp hc']
              obtain ⟨g1, g2⟩ := g
              obtain ⟨f1, f2⟩ := f
              have e3 : g2 = f2 := tl_inj e2
              have e4 : g1 = f1 := kg'.trans k'.symm
              exact decide_eq_true (by rw [e3, e4])
          rw [ha g hg] at cv
          cases cv
    rcases first_cov f q with hn | ⟨a, g, b, eq, ha, hg⟩
    · obtain ⟨v, v0, _, hv⟩ := key q [] (by simp) hn
      cases v with
      | nil => exact absurd rfl v0
      | cons c v => cases hv
    · obtain ⟨v, v0, vs, hv⟩ := key a (g :: b) eq ha
      have ei : inc q (f :: p) = inc (g :: b) (f :: p) := by rw [eq]; exact inc_skip ha
      have lb : (g :: b).length ≤ q.length := by rw [eq, List.length_append]; omega
      rw [ei]
      have wb : W1 (g :: b) := fun x hx => wq x (by rw [eq]; exact List.mem_append_right _ hx)
      by_cases k : g.1 = true
      · have ih := inc_complete m p (g :: b) wp' wb (by omega) hv.drop
        unfold inc
        rw [if_pos hg, if_pos k]
        exact ih
      · have k' : g.1 = false := by simpa using k
        have eg := cov_opt hg k'
        have hb : Lg b (DW.unf p m) := by
          cases v with
          | nil => exact absurd rfl v0
          | cons c v =>
            cases hv with
            | skip h => exact Lg.drop (u := c :: v) h
            | opt _ _ h => exact Lg.drop h
            | star k2 _ _ =>
              rw [k'] at k2
              cases k2
        have ih := inc_complete m p b wp' (fun x hx => wb x (List.mem_cons_of_mem _ hx)) (by rw [List.length_cons] at lb; omega) hb
        unfold inc
        rw [if_pos hg, if_neg k]
        exact ih
end DW
namespace DW
open PySem PySem.Spec PyProof.Rows L2 TL
set_option autoImplicit false
theorem kd_star (b : Bool) : decide (V.str (kd b) = V.str "star") = b := by
  cases b
  · exact decide_eq_false (by unfold kd; decide +kernel)
  · exact decide_eq_true rfl
theorem kd_inj {a b : Bool} (h : kd a = kd b) : a = b := by
  cases a <;> cases b <;> first | rfl | (exfalso; revert h; unfold kd; decide +kernel)
def fD (f : Fc) : PyData := .tuple [.str (kd f.1), .str f.2]
theorem IsF.dp {K : PySem.W.Frag} {H : Hp} {v : V} {f : Fc} (h : IsF K H v f) : Dp K H v (fD f) := by
  obtain ⟨a, rfl, q⟩ := h
  exact .tup q (.cons (.str _) (.cons (.str _) .nil))
def Low (f : Fc) : Prop := (∀ c ∈ ls f, c < 128) ∧ (ls f).length ≤ 1000
theorem strOk_low {x : Str} (h : ∀ c ∈ tl x, c < 128) (hl : (tl x).length ≤ 1000) : PyData.strOk x = true := by
  unfold PyData.strOk
  rw [← Array.all_toList, List.all_eq_true]
  exact fun c hc => decide_eq_true (by have := h c hc; omega)
theorem kd_ok (b : Bool) : PyData.strOk (kd b) = true := by
  cases b <;> (unfold kd; decide +kernel)
theorem fD_shaped {f : Fc} (h : Low f) : SeqAt.shaped (fD f) = true := by
  unfold SeqAt.shaped fD
  rw [Bool.and_eq_true]
  refine ⟨?_, decide_eq_true (by simp [PyData.depth, PyData.depthAll])⟩
  simp only [PyData.canLay0, PyData.canLayAll0, kd_ok, strOk_low h.1 h.2, Bool.and_self]
theorem fD_eqv (f g : Fc) : PyData.eqv (fD f) (fD g) = decide (f = g) := by
  unfold fD
  simp only [PyData.eqv, PyData.eqvAll, Bool.and_true]
  rw [Bool.eq_iff_iff, Bool.and_eq_true, decide_eq_true_eq, beq_iff_eq, beq_iff_eq]
  constructor
  · rintro ⟨e1, e2⟩
    obtain ⟨a, b⟩ := f
    obtain ⟨c, d⟩ := g
    have := kd_inj e1
    simp only at this e2
    rw [this, e2]
  · rintro rfl
    exact ⟨rfl, rfl⟩
def spSw (K : PySem.W.Frag) : Sp := fun vs H Q _ => ∃ (x y : V) (g f : Fc), vs = [x, y] ∧ IsF K H x g ∧ IsF K H y f ∧ (ls f).length ≤ 1000 ∧ ∀ H', Same H H' → Q (.bl (sw g f)) H'
def spCov (K : PySem.W.Frag) : Sp := fun vs H Q _ => ∃ (x y : V) (g f : Fc), vs = [x, y] ∧ IsF K H x g ∧ IsF K H y f ∧ Low g ∧ Low f ∧ ∀ H', Same H H' → Q (.bl (cov g f)) H'
def spIncl (K : PySem.W.Frag) : Sp := fun vs H Q _ => ∃ (x y : V) (p q : List Fc), vs = [x, y] ∧ IsP K H x p ∧ IsP K H y q ∧ (∀ f ∈ p, Low f) ∧ (∀ g ∈ q, Low g) ∧ ∀ H', Same H H' → Q (.bl (inc q p)) H'
def rst : List Fc → List Fc → Option (List Fc)
  | q, [] => some q
  | [], _ :: _ => none
  | g :: q, f :: p => if cov g f = true then (if g.1 = true then rst (g :: q) p else rst q p) else rst q (f :: p)
termination_by q p => (q.length + p.length)
theorem rst_none (f : Fc) (p : List Fc) : rst [] (f :: p) = none := by unfold rst; rfl
theorem rst_cons (g f : Fc) (q p : List Fc) : rst (g :: q) (f :: p) = if cov g f = true then (if g.1 = true then rst (g :: q) p else rst q p) else rst q (f :: p) := by conv => lhs; unfold rst
theorem rst_nil (q : List Fc) : rst q [] = some q := by cases q <;> (unfold rst; rfl)
theorem inc_none (f : Fc) (p : List Fc) : inc [] (f :: p) = false := by unfold inc; rfl
theorem inc_cons (g f : Fc) (q p : List Fc) : inc (g :: q) (f :: p) = if cov g f = true then (if g.1 = true then inc (g :: q) p else inc q p) else inc q (f :: p) := by conv => lhs; unfold inc
theorem inc_nil (q : List Fc) : inc q [] = true := by cases q <;> (unfold inc; rfl)
theorem rst_inc : ∀ (q p : List Fc), (rst q p).isSome = inc q p
  | q, [] => by rw [rst_nil, inc_nil]; rfl
  | [], f :: p => by rw [rst_none, inc_none]; rfl
  | g :: q, f :: p => by
    rw [rst_cons, inc_cons]
    by_cases c : cov g f = true
    · rw [if_pos c, if_pos c]
      by_cases s : g.1 = true
      · rw [if_pos s, if_pos s]
        exact rst_inc (g :: q) p
      · rw [if_neg s, if_neg s]
        exact rst_inc q p
    · rw [if_neg c, if_neg c]
      exact rst_inc q (f :: p)
termination_by q p => (q.length + p.length)
/-- the place that is told: how many factors are left behind -/
def plV (n : Nat) : Option (List Fc) → V
  | none => .non
  | some r => .int ((n - r.length : Nat) : Int)
def spBehind (K : PySem.W.Frag) : Sp := fun vs H Q _ => ∃ (x : V) (q : List Fc) (i : Nat) (g : Fc), vs = [x, .int (i : Int)] ∧ IsP K H x q ∧ q[i]? = some g ∧ ∀ H', Same H H' → Q (.int ((if g.1 = true then i else i + 1 : Nat) : Int)) H'
def spPlc (K : PySem.W.Frag) : Sp := fun vs H Q _ => ∃ (x y : V) (p q : List Fc) (s : Nat), vs = [x, y, .int (s : Int)] ∧ IsP K H x p ∧ IsP K H y q ∧ s ≤ q.length ∧ (∀ f ∈ p, Low f) ∧ (∀ g ∈ q, Low g) ∧ ∀ H', Same H H' → Q (plV q.length (rst (q.drop s) p)) H'
section
variable {P : Program} {w : World} {K : PySem.W.Frag} {mg : Str → Option Value} {base : Heap}
theorem scSw : FnScope ["factor", "other", "letter"] ["factor", "other"] (defScope sSwallows) := ⟨rfl, rfl, rfl, by decide +kernel, rfl, by decide +kernel, by decide +kernel⟩
theorem ok_sw (D : Df K mg "swallows" sSwallows ["factor", "other"]) (ma : mg "all" = none) : FnOk P w K mg base CX0 1 D.f D.fd ["factor", "other"] (spSw K) := by
  refine D.F.ok scSw (fun vs H Q E h => ?_) (fun cdv A outer s H vs Q E hr h => ?_)
  · obtain ⟨x, y, g, f, rfl, _⟩ := h
    rfl
  · obtain ⟨x, y, g, f, rfl, ⟨a, rfl, ha⟩, ⟨b, rfl, hb⟩, fl, k⟩ := h
    refine ⟨_, pss_one (ps_ret (pe_and (pe_cmpR op_eq (pe_ix ix_tup (pv 0) pe_int (fun _ _ => rfl)) pe_str (nomark _)) (pe_one (pe_callB (cr_all rfl) (by rfl) ma (by decide +kernel) (pa_cons
      (pe_lc (own := [("letter", 2)]) (g := gName 2) rfl scSw.nd (pi_str (pe_ix ix_tup (pv 1) pe_int (fun _ _ => rfl))) (blkOk_by (N := ["factor", "other", "letter"]) (sc := defScope sSwallows) (by decide +kernel)) (fun _ _ _ _ _ => pg_name (i := 2) scSw.nd rfl (Or.inl rfl)) (fun _ _ _ _ _ => pts_nil)
        (fun _ _ _ _ _ => pe_cmpR op_in_sign (pv 2) (pe_ix (r := rIxT K) (by exact ix_tup) (pv 0) pe_int (fun _ _ => rfl)) rfl)) pa_nil))))), ?_⟩
    refine ⟨.ref a, rfl, a, _, 0, .str (kd g.1), rfl, rfl, ha, atI_nat (j := 0) rfl, rfl, _, rfl, ?_⟩
    rw [kd_star]
    refine ite2 (fun e => ?_) (fun e => ?_)
    · refine ⟨.ref b, rfl, b, _, 1, .str f.2, rfl, rfl, hb, atI_nat (j := 1) rfl, f.2, rfl, fun D hD => ?_⟩
      have zs : f.2.cps.size = (ls f).length := (Array.length_toList).symm
      refine lc_it walk_str (fun i H' => ∃ bs : List Bool, H' D = some (.lst (bs.map V.bl)) ∧ bs = ((ls f).take i).map (fun c => decide (c ∈ ls g)) ∧ Same H H') ?_ (fun _ _ _ _ => trivial) ?_ ?_
      · exact ⟨[], upd_same, rfl, same_upd hD⟩
      · rintro i x G G' hi ⟨bs, gD, be, sm⟩ ⟨rfl, d, hd, rfl⟩
        have hd' : (tl f.2)[i]? = some d := by rw [Array.getElem?_toList]; exact hd
        refine ⟨rfl, yes ?_⟩
        refine ⟨_, rfl, .ref a, rfl, a, _, 1, .str g.2, rfl, rfl, same_tup sm _ _ ha, atI_nat (j := 1) rfl, d, g.2, rfl, rfl, _, gD, ?_, bs ++ [decide (d ∈ tl g.2)], ?_, ?_, fun b u e => ?_⟩
        · rw [List.length_map, be, List.length_map, List.length_take, sizeLine_eq]
          omega
        · rw [upd_same, List.map_append]
          rfl
        · rw [be, List.take_add_one, hd', List.map_append]
          rfl
        · exact (upd_ne (ne_of_none e hD)).trans (sm _ _ e)
      · rintro G ⟨bs, gD, be, sm⟩
        refine ⟨D, bs, rfl, SqL.of gD, ?_⟩
        have e2 : bs.all id = sw g f := by
          rw [be, zs, List.take_length]
          unfold sw
          rw [e, Bool.true_and, List.all_map]
          rfl
        rw [e2]
        exact k _ sm
    · have e' : g.1 = false := by simpa using e
      have e2 : sw g f = false := by
        unfold sw
        rw [e']
        rfl
      rw [← e2]
      exact k _ (Same.refl _)
theorem scCov : FnScope ["factor", "other"] ["factor", "other"] (defScope sCovers) := ⟨rfl, rfl, rfl, by decide +kernel, rfl, by decide +kernel, by decide +kernel⟩
theorem ok_cov (D : Df K mg "covers" sCovers ["factor", "other"]) (Ds0 : Df K mg "swallows" sSwallows ["factor", "other"]) (ma : mg "all" = none) : FnOk P w K mg base CX0 2 D.f D.fd ["factor", "other"] (spCov K) := by
  have Gs : FnOk P w K mg base CX0 1 Ds0.f Ds0.fd ["factor", "other"] (spSw K) := ok_sw Ds0 ma
  refine D.F.ok scCov (fun vs H Q E h => ?_) (fun cdv A outer s H vs Q E hr h => ?_)
  · obtain ⟨x, y, g, f, rfl, _⟩ := h
    rfl
  · obtain ⟨x, y, g, f, rfl, hg, hf, lg, lf, k⟩ := h
    refine ⟨_, pss_one (ps_ret (pe_or (pe_cmpR (op_eqD hr.units) (pv 0) (pv 1) (nomark _)) (pe_one (pe_call Gs hr (by rfl) Ds0.g Ds0.F.kp Ds0.b .nil pass0 (pa_cons (pv 0) (pa_cons (pv 1) pa_nil)))))), ?_⟩
    refine ⟨x, rfl, y, rfl, fD g, fD f, hg.dp, hf.dp, fD_shaped lg, fD_shaped lf, _, rfl, ?_⟩
    rw [fD_eqv]
    refine ite2 (fun e => ?_) (fun e => ?_)
    · have e2 : cov g f = true := by
        unfold cov
        rw [e]
        rfl
      rw [← e2]
      exact k _ (Same.refl _)
    · refine ⟨x, rfl, y, rfl, x, y, g, f, rfl, hg, hf, lf.2, fun H' sm => ?_⟩
      have e2 : cov g f = sw g f := by
        unfold cov
        rw [show decide (g = f) = false by simpa using e]
        rfl
      rw [← e2]
      exact k _ sm
theorem drop_at {α : Type} {l : List α} {i : Nat} {x : α} (h : l[i]? = some x) : l.drop i = x :: l.drop (i + 1) := by
  obtain ⟨hi, e⟩ := List.getElem?_eq_some_iff.mp h
  rw [← e]
  exact List.drop_eq_getElem_cons hi
theorem IsFs.at {K : PySem.W.Frag} {H : Hp} : ∀ {vs : List V} {fs : List Fc}, IsFs K H vs fs → ∀ (i : Nat), i < fs.length → ∃ v f, vs[i]? = some v ∧ fs[i]? = some f ∧ IsF K H v f := by
  intro vs fs h i hi
  have hv : i < vs.length := by rw [h.len]; exact hi
  obtain ⟨f, e, q⟩ := h.get i vs[i] (List.getElem?_eq_getElem hv)
  exact ⟨_, f, List.getElem?_eq_getElem hv, e, q⟩
theorem scBeh : FnScope ["product", "place"] ["product", "place"] (defScope sBehind) := ⟨rfl, rfl, rfl, by decide +kernel, rfl, by decide +kernel, by decide +kernel⟩
theorem ok_beh (D : Df K mg "behind" sBehind ["product", "place"]) : FnOk P w K mg base CX0 1 D.f D.fd ["product", "place"] (spBehind K) := by
  refine D.F.ok scBeh (fun vs H Q E h => ?_) (fun cdv A outer s H vs Q E hr h => ?_)
  · obtain ⟨x, q, i, g, rfl, _⟩ := h
    rfl
  · obtain ⟨x, q, i, g, rfl, ⟨b, ys, rfl, hb, iQ⟩, hg, k⟩ := h
    refine ⟨_, pss_cons (ps_if (pt_cmpR op_eq (pe_ix ix_tup (pe_ix ix_tup (pv 0) (pv 1) (fun _ _ => rfl)) pe_int (fun _ _ => rfl)) pe_str (nomark _)) (pss_one (ps_ret (pv 1))) pss_nil)
      (pss_one (ps_ret (pe_op op_add (pv 1) pe_int))), ?_⟩
    obtain ⟨v, g', hv, hg', c, rfl, hc⟩ := iQ.at i (List.getElem?_eq_some_iff.mp hg).1
    rw [hg] at hg'
    cases hg'
    refine ⟨.ref b, rfl, .int (i : Int), rfl, b, ys, (i : Int), .ref c, rfl, rfl, hb, atI_nat hv, c, _, 0, .str (kd g.1), rfl, rfl, hc, atI_nat (j := 0) rfl, rfl, _, rfl, ?_⟩
    rw [kd_star]
    refine ite2 (fun e2 => ?_) (fun e2 => ?_)
    · have kg : g.1 = true := by simpa using e2
      rw [if_pos kg] at k
      exact ⟨_, rfl, k _ (Same.refl _)⟩
    · have kg : g.1 = false := by simpa using e2
      rw [if_neg (by rw [kg]; simp)] at k
      exact ⟨_, rfl, _, _, rfl, rfl, k _ (Same.refl _)⟩
theorem scPlc : FnScope ["product", "other", "start", "place", "factor"] ["product", "other", "start"] (defScope sPlaceBehind) := ⟨rfl, rfl, rfl, by decide +kernel, rfl, by decide +kernel, by decide +kernel⟩
theorem ok_plc (D : Df K mg "place_behind" sPlaceBehind ["product", "other", "start"]) (Db : Df K mg "behind" sBehind ["product", "place"]) (Dc : Df K mg "covers" sCovers ["factor", "other"]) (Ds0 : Df K mg "swallows" sSwallows ["factor", "other"]) (ma : mg "all" = none) (ml : mg "len" = none) :
    FnOk P w K mg base CX0 3 D.f D.fd ["product", "other", "start"] (spPlc K) := by
  have Gc : FnOk P w K mg base CX0 2 Dc.f Dc.fd ["factor", "other"] (spCov K) := ok_cov Dc Ds0 ma
  have Gb : FnOk P w K mg base CX0 1 Db.f Db.fd ["product", "place"] (spBehind K) := ok_beh Db
  refine D.F.ok scPlc (fun vs H Q E h => ?_) (fun cdv A outer s H vs Q E hr h => ?_)
  · obtain ⟨x, y, p, q, s, rfl, _⟩ := h
    rfl
  · obtain ⟨x, y, p, q, st, rfl, ⟨a, xs, rfl, ha, iP⟩, ⟨b, ys, rfl, hb, iQ⟩, hst, pl3, ql3, k⟩ := h
    have hq : IsP K H (.ref b) q := ⟨b, ys, rfl, hb, iQ⟩
    refine ⟨_, PSs.nox (pss_cons (ps_set (i := 3) scPlc.nd rfl (.inl rfl) (pv 2))
      (pss_cons (ps_for PassesOwn.never rfl (pi_tup (pv 0)) (pg_name (i := 4) scPlc.nd rfl (.inl rfl))
        (C8.pss_cut (ps_while PassesOwn.never (pw_and (pt_cmpR op_lt (pv 3) (pe_callB call_len_seq (by rfl) ml PySem.boot_len (pa_cons (pv 1) pa_nil)) (nomark _))
            (pw_and1 (pt_not (pt_val (pe_call Gc hr (by rfl) Dc.g Dc.F.kp Dc.b .nil pass0 (pa_cons (pe_ix ix_tup (pv 1) (pv 3) (fun _ _ => rfl)) (pa_cons (pv 4) pa_nil))))))).pt
          (pss_one (ps_aug (i := 3) scPlc.nd rfl (.inl rfl) pe_int ip_add)))
        (pss_cons (ps_if (pt_cmpR op_eq (pv 3) (pe_callB call_len_seq (by rfl) ml PySem.boot_len (pa_cons (pv 1) pa_nil)) (nomark _)) (pss_one (ps_ret pe_non)) pss_nil)
        (pss_one (ps_set (i := 3) scPlc.nd rfl (.inl rfl) (pe_call Gb (hr.mono (by decide)) (by rfl) Db.g Db.F.kp Db.b .nil pass0 (pa_cons (pv 1) (pa_cons (pv 3) pa_nil))))))))
      (pss_one (ps_ret (pv 3))))), ?_⟩
    have yl : ys.length = q.length := iQ.len
    refine ⟨_, rfl, .ref a, rfl, a, rfl, ⟨xs, ha⟩, for_it (walk_tup (xs := xs)) (fun i σ H' => ∃ (pl : Nat) (y3 : Option V), σ = [some (.ref a), some (.ref b), some (.int (st : Int)), some (.int pl), y3] ∧ Same H H' ∧ pl ≤ q.length ∧ rst (q.drop pl) (p.drop i) = rst (q.drop st) p)
      ⟨st, _, rfl, Same.refl _, hst, rfl⟩ (fun _ _ H' _ ⟨_, _, _, sm, _⟩ => same_tup sm _ _ ha) ?_ ?_⟩
    · rintro i x σ G G' hi ⟨pl, y3, rfl, sm, hpl, ei⟩ ⟨rfl, hx⟩
      obtain ⟨f, hf, isf⟩ := iP.get i x hx
      have fm : f ∈ p := List.mem_of_getElem? hf
      rw [drop_at hf] at ei
      refine ⟨fun σ' H' => ∃ pl : Nat, σ' = [some (.ref a), some (.ref b), some (.int (st : Int)), some (.int pl), some x] ∧ Same H H' ∧ pl ≤ q.length ∧ rst (q.drop pl) (f :: p.drop (i + 1)) = rst (q.drop st) p ∧ ∀ g, q[pl]? = some g → cov g f = true, ?_, ?_⟩
      · refine ⟨fun m σ' H' => ∃ pl : Nat, σ' = [some (.ref a), some (.ref b), some (.int (st : Int)), some (.int pl), some x] ∧ Same H H' ∧ pl ≤ q.length ∧ rst (q.drop pl) (f :: p.drop (i + 1)) = rst (q.drop st) p ∧ m = q.length - pl, ⟨_, pl, rfl, sm, hpl, ei, rfl⟩, ?_⟩
        rintro m σ' H' ⟨pl, rfl, sm, hpl, ei, rfl⟩
        refine ⟨.int pl, rfl, .ref b, rfl, b, ys, rfl, .inr (same_tup sm _ _ hb), _, _, rfl, rfl, _, rfl, ite2 (fun e => ?_) (fun e => ?_)⟩
        · have lt : pl < q.length := by
            have := of_decide_eq_true e
            omega
          obtain ⟨v, g, hv, hg, isg⟩ := iQ.at pl lt
          refine ⟨.ref b, rfl, .int pl, rfl, b, ys, (pl : Int), v, rfl, rfl, same_tup sm _ _ hb, atI_nat hv, x, rfl, v, x, g, f, rfl, isg.mono (same_tup sm), isf.mono (same_tup sm), ql3 g (List.mem_of_getElem? hg), pl3 f fm, fun H2 s2 => ?_⟩
          refine ⟨_, rfl, ?_⟩
          have eg := drop_at hg
          refine ite2 (fun e2 => ?_) (fun e2 => ?_)
          · have c : cov g f = false := by simpa using e2
            refine ⟨fun σ' H' => ∃ y, σ' = [some (.ref a), some (.ref b), some (.int (st : Int)), y, some x] ∧ y = some (.int ((pl + 1 : Nat) : Int)) ∧ Same H H', fun σ' H' h => ?_, ?_⟩
            · obtain ⟨y, rfl, rfl, s3⟩ := h
              refine ⟨q.length - (pl + 1), by omega, pl + 1, rfl, s3, by omega, ?_, rfl⟩
              rw [eg, rst_cons, if_neg (by rw [c]; simp)] at ei
              exact ei
            · exact ⟨_, rfl, _, _, rfl, rfl, _, rfl, rfl, sm.trans s2⟩
          · have c : cov g f = true := by simpa using e2
            exact ⟨pl, rfl, sm.trans s2, hpl, ei, fun g' hg' => by rw [hg] at hg'; cases hg'; exact c⟩
        · have ge : q.length ≤ pl := by
            have : ¬ (pl : Int) < (ys.length : Int) := fun z => e (decide_eq_true z)
            omega
          exact ⟨pl, rfl, sm, hpl, ei, fun g hg => by
            have := (List.getElem?_eq_some_iff.mp hg).1
            omega⟩
      · rintro σ' H' ⟨pl, rfl, sm, hpl, ei, cv⟩
        refine ⟨.int pl, rfl, .ref b, rfl, b, ys, rfl, .inr (same_tup sm _ _ hb), rfl, _, rfl, ite2 (fun e => ?_) (fun e => ?_)⟩
        · have e' : pl = q.length := by
            have := V.int.inj (of_decide_eq_true e)
            omega
          rw [e', List.drop_length, rst_none] at ei
          show Q .non _
          have k' := k _ sm
          rw [← ei] at k'
          exact k'
        · have lt : pl < q.length := by
            have : ¬ V.int (pl : Int) = V.int (ys.length : Int) := fun z => e (decide_eq_true z)
            have : ¬ pl = ys.length := fun z => this (by rw [z])
            omega
          obtain ⟨v, g, hv, hg, _⟩ := iQ.at pl lt
          have eg := drop_at hg
          rw [eg, rst_cons, if_pos (cv g hg)] at ei
          refine ⟨.ref b, rfl, .int pl, rfl, .ref b, q, pl, g, rfl, hq.mono (same_tup sm), hg, fun H2 s2 => ?_⟩
          refine ⟨if g.1 = true then pl else pl + 1, _, rfl, sm.trans s2, by split <;> omega, ?_⟩
          by_cases kg : g.1 = true
          · rw [if_pos kg, ← eg] at ei
            rw [if_pos kg]
            exact ei
          · rw [if_neg kg] at ei
            rw [if_neg kg]
            exact ei
    · rintro σ H' ⟨pl, y3, rfl, sm, hpl, ei⟩
      rw [iP.len, List.drop_length, rst_nil] at ei
      have k' := k _ sm
      rw [← ei] at k'
      refine ⟨_, rfl, ?_⟩
      have e3 : plV q.length (some (q.drop pl)) = .int (pl : Int) := by
        show V.int _ = _
        rw [List.length_drop, show q.length - (q.length - pl) = pl by omega]
      rw [e3] at k'
      exact k'
theorem scIncl : FnScope ["product", "other"] ["product", "other"] (defScope sIsIncluded) := ⟨rfl, rfl, rfl, by decide +kernel, rfl, by decide +kernel, by decide +kernel⟩
structure DfIncl (K : PySem.W.Frag) (mg : Str → Option Value) where
  i : Df K mg "is_included" sIsIncluded ["product", "other"]
  p : Df K mg "place_behind" sPlaceBehind ["product", "other", "start"]
  b : Df K mg "behind" sBehind ["product", "place"]
  c : Df K mg "covers" sCovers ["factor", "other"]
  s : Df K mg "swallows" sSwallows ["factor", "other"]
theorem ok_incl (D : DfIncl K mg) (ma : mg "all" = none) (ml : mg "len" = none) :
    FnOk P w K mg base CX0 4 D.i.f D.i.fd ["product", "other"] (spIncl K) := by
  have Gp : FnOk P w K mg base CX0 3 D.p.f D.p.fd ["product", "other", "start"] (spPlc K) := ok_plc D.p D.b D.c D.s ma ml
  refine D.i.F.ok scIncl (fun vs H Q E h => ?_) (fun cdv A outer s H vs Q E hr h => ?_)
  · obtain ⟨x, y, p, q, rfl, _⟩ := h
    rfl
  · obtain ⟨x, y, p, q, rfl, hp, hq, pl3, ql3, k⟩ := h
    refine ⟨_, pss_one (ps_ret (pe_cmpR op_notN (pe_call Gp hr (by rfl) D.p.g D.p.F.kp D.p.b .nil pass0 (pa_cons (pv 0) (pa_cons (pv 1) (pa_cons pe_int pa_nil)))) pe_non (nomark _))), ?_⟩
    refine ⟨_, rfl, _, rfl, x, y, p, q, 0, rfl, hp, hq, Nat.zero_le _, pl3, ql3, fun H' sm => ⟨rfl, ?_⟩⟩
    rw [List.drop_zero]
    have e : (!decide (plV q.length (rst q p) = V.non)) = inc q p := by
      rw [← rst_inc]
      cases rst q p with
      | none => rfl
      | some r => rfl
    rw [e]
    exact k _ sm
end
end DW
namespace DW
open PySem PySem.Spec PyProof.Rows L2 TL
set_option autoImplicit false
/-! ### all ways to divide, by places -/
theorem Lg.of_nil {u : List Nat} (h : Lg [] u) : u = [] := by
  cases h
  rfl
end DW
namespace DW
open PySem PySem.Spec PyProof.Rows L2 TL
set_option autoImplicit false
theorem fok_w1 {z : Str} {fs : List Fc} (h : ∀ f ∈ fs, FOk z f) : W1 fs := fun f hf => ⟨(h f hf).1, (h f hf).2.2⟩
theorem fok_len {z : Str} (al : Alph z) {f : Fc} (h : FOk z f) : (ls f).length ≤ 3 := Nat.le_trans h.2.1.length_le al.2.2.1
theorem fok_low {z : Str} (al : Alph z) {f : Fc} (h : FOk z f) : Low f := ⟨fun c hc => by
  have := al.2.2.2 c (h.2.1.subset hc)
  omega, Nat.le_trans (fok_len al h) (by decide)⟩
theorem alph_ne {z : Str} (al : Alph z) : tl z ≠ [] := fun q => by
  have := al.2.1
  rw [q] at this
  cases this
theorem inc_iff {p q : List Fc} (wp : W1 p) (wq : W1 q) : inc q p = true ↔ Lg q (unf p (q.length + 1)) :=
  ⟨fun h => inc_sound q p h _ (Lg.unf _ p fun f hf => (wp f hf).2), fun h => inc_complete (q.length + 1) p q wp wq (Nat.lt_succ_self _) h⟩
/-! ### words as products of optional letters -/
def ones (w : List Nat) : List Fc := w.map fun c => (false, one c)
theorem unf_ones (w : List Nat) (m : Nat) : unf (ones w) m = w := by
  unfold unf ones
  induction w with
  | nil => rfl
  | cons c w ih =>
    rw [List.map_cons, List.map_cons, List.flatten_cons, ih]
    rfl
theorem w1_ones (w : List Nat) : W1 (ones w) := fun f hf => by
  obtain ⟨c, _, rfl⟩ := List.mem_map.mp hf
  exact ⟨by simp [ls, one], fun _ => rfl⟩
theorem acc_iff {q : List Fc} (wq : W1 q) (w : List Nat) : inc q (ones w) = true ↔ Lg q w := by
  rw [inc_iff (w1_ones w) wq, unf_ones]
theorem low_ones {w : List Nat} (h : ∀ c ∈ w, c < 128) : ∀ f ∈ ones w, Low f := fun f hf => by
  obtain ⟨c, hc, rfl⟩ := List.mem_map.mp hf
  exact ⟨fun d hd => by rw [List.mem_singleton.mp hd]; exact h c hc, by show 1 ≤ 1000; decide⟩
theorem Lg.sub {fs : List Fc} {u w : List Nat} (h : Lg fs u) (s : w.Sublist u) : Lg fs w := by
  induction h generalizing w with
  | nil =>
    rw [List.sublist_nil.mp s]
    exact .nil
  | skip h ih => exact .skip (ih s)
  | opt k m h ih =>
    cases s with
    | cons _ s => exact .skip (ih s)
    | cons_cons _ s => exact .opt k m (ih s)
  | star k m h ih =>
    cases s with
    | cons _ s => exact ih s
    | cons_cons _ s => exact .star k m (ih s)
theorem sub_rep {L : List Nat} : ∀ (u : List Nat) (m : Nat), (∀ c ∈ u, c ∈ L) → u.length ≤ m → u.Sublist (List.replicate m L).flatten
  | [], _, _, _ => List.nil_sublist _
  | c :: u, 0, _, h => by simp at h
  | c :: u, m + 1, h, hl => by
    rw [List.replicate_succ, List.flatten_cons]
    have h1 : [c].Sublist L := List.singleton_sublist.mpr (h c List.mem_cons_self)
    have h2 := sub_rep u m (fun d hd => h d (List.mem_cons_of_mem _ hd)) (by rw [List.length_cons] at hl; omega)
    exact h1.append h2
theorem Lg.to_unf (m : Nat) : ∀ (fs : List Fc) (w : List Nat), (∀ f ∈ fs, f.1 = false → (ls f).length = 1) → Lg fs w → w.length ≤ m → w.Sublist (DW.unf fs m)
  | [], w, _, h, _ => by
    rw [Lg.of_nil h]
    exact List.nil_sublist _
  | f :: fs, w, h1, h, hl => by
    obtain ⟨u, v, rfl, hu, hv⟩ := Lg.split (fs := [f]) h
    rw [List.length_append] at hl
    have ih := Lg.to_unf m fs v (fun g hg => h1 g (List.mem_cons_of_mem _ hg)) hv (by omega)
    have e : DW.unf (f :: fs) m = piece m f ++ DW.unf fs m := rfl
    rw [e]
    refine List.Sublist.append ?_ ih
    unfold piece
    by_cases k : f.1 = true
    · rw [if_pos k]
      exact sub_rep u m ((Lg.one_star k).mp hu) (by omega)
    · rw [if_neg k]
      have k' : f.1 = false := by simpa using k
      rcases Lg.one_opt k' hu with e | ⟨c, hc, e⟩
      · rw [e]
        exact List.nil_sublist _
      · rw [e]
        exact List.singleton_sublist.mpr hc
theorem sub_unf_iff {fs : List Fc} (wf : W1 fs) {w : List Nat} {m : Nat} (hm : w.length ≤ m) : w.Sublist (unf fs m) ↔ Lg fs w :=
  ⟨fun s => (Lg.unf m fs fun f hf => (wf f hf).2).sub s, fun h => Lg.to_unf m fs w (fun f hf => (wf f hf).2) h hm⟩
/-! ### letters taken one after the other -/
def rem : List Nat → List Nat → List Nat
  | w, [] => w
  | [], _ :: _ => []
  | c :: w, d :: o => if c = d then rem w o else rem (c :: w) o
theorem rem_nil : ∀ o : List Nat, rem [] o = []
  | [] => rfl
  | _ :: _ => rfl
theorem rem_iff : ∀ (o w : List Nat), rem w o = [] ↔ w.Sublist o
  | [], w => by
    show w = [] ↔ _
    rw [List.sublist_nil]
  | d :: o, [] => by simp [rem]
  | d :: o, c :: w => by
    show (if c = d then rem w o else rem (c :: w) o) = [] ↔ _
    by_cases e : c = d
    · subst e
      rw [if_pos rfl, rem_iff o w, List.cons_sublist_cons]
    · rw [if_neg e, rem_iff o (c :: w)]
      constructor
      · exact fun h => .cons _ h
      · intro h
        cases h with
        | cons _ h => exact h
        | cons_cons _ h => exact absurd rfl e
theorem cut_tail {z : Str} {c : Nat} {r : List Nat} (h : tl z = c :: r) : tl (cutS z (some 1) none) = r := by
  have zl : z.length = r.length + 1 := by
    have e : z.length = (tl z).length := (Array.length_toList).symm
    rw [e, h]
    rfl
  show ((z.cps.toList.drop (HT.sIx z.length 0 (some 1))).take (HT.sIx z.length z.length none - HT.sIx z.length 0 (some 1))) = r
  rw [show HT.sIx z.length 0 (some 1) = min 1 z.length from HT.sIx_nat z.length 0 1, HT.sIx_none]
  have h' : z.cps.toList = c :: r := h
  rw [h', show min 1 z.length = 1 by omega, show z.length - 1 = r.length by omega]
  show List.take r.length r = r
  exact List.take_length
def spSubw (K : PySem.W.Frag) : Sp := fun vs H Q _ => ∃ z : Str, vs = [.str z] ∧ (tl z).length ≤ 100000 ∧ ∀ H' v, Same H H' → IsP K H' v (ones (tl z)) → Q v H'
def spAcc (K : PySem.W.Frag) : Sp := fun vs H Q _ => ∃ (v : V) (fs : List Fc) (z : Str), vs = [v, .str z] ∧ IsP K H v fs ∧ W1 fs ∧ (∀ f ∈ fs, Low f) ∧ (tl z).length ≤ 100000 ∧ (∀ c ∈ tl z, c < 128) ∧ ∀ H' b, Same H H' → (b = true ↔ Lg fs (tl z)) → Q (.bl b) H'
section
variable {P : Program} {w : World} {K : PySem.W.Frag} {mg : Str → Option Value} {base : Heap}
theorem scSubw : FnScope ["word", "letter"] ["word"] (defScope sSubwordsProduct) := ⟨rfl, rfl, rfl, by decide +kernel, rfl, by decide +kernel, by decide +kernel⟩
theorem ok_subw (D : Df K mg "subwords_product" sSubwordsProduct ["word"]) (mt : mg "tuple" = none) : FnOk P w K mg base CX0 1 D.f D.fd ["word"] (spSubw K) := by
  refine D.F.ok scSubw (fun vs H Q E h => ?_) (fun cdv A outer s H vs Q E hr h => ?_)
  · obtain ⟨z, rfl, _⟩ := h
    rfl
  · obtain ⟨z, rfl, zl, k⟩ := h
    have zs : z.cps.size = (tl z).length := (Array.length_toList).symm
    refine ⟨_, (pss_one (ps_ret (pe_callTy call_tuple_of (by rfl) mt (by decide +kernel) (pa_cons (pe_lc (own := [("letter", 1)]) (g := gName 1) rfl scSubw.nd (pi_str (pv 0)) (blkOk_by (N := ["word", "letter"]) (sc := defScope sSubwordsProduct) (by decide +kernel)) (fun _ _ _ _ _ => pg_name (i := 1) scSubw.nd rfl (Or.inl rfl)) (fun _ _ _ _ _ => pts_nil) (fun _ _ _ _ _ => (pe_tup (pa_cons pe_str (pa_cons (pv 1) pa_nil))))) pa_nil)))), ?_⟩
    refine ⟨.str z, rfl, z, rfl, fun D hD => ?_⟩
    refine lc_it walk_str (fun i H' => ∃ us : List V, H' D = some (.lst us) ∧ IsFs K H' us (ones ((tl z).take i)) ∧ Same H H') ?_ (fun _ _ _ _ => trivial) ?_ ?_
    · exact ⟨[], upd_same, .nil, same_upd hD⟩
    · rintro i x G G' hi ⟨us, gD, iF, sm⟩ ⟨rfl, d, hd, rfl⟩
      have hd' : (tl z)[i]? = some d := by rw [Array.getElem?_toList]; exact hd
      refine ⟨rfl, yes ?_⟩
      refine ⟨_, rfl, by show 2 ≤ sizeLine; decide, fun p hp => ?_⟩
      have sp := same_upd (o := .tup [.str "opt", .str ⟨#[d]⟩]) hp
      have gD1 := sp _ _ gD
      refine ⟨us, gD1, ?_, us ++ [.ref p], upd_same, ?_, fun b o e => (upd_ne (ne_of_none e hD)).trans (sp _ _ (sm _ _ e))⟩
      · rw [iF.len]
        unfold ones
        rw [List.length_map, List.length_take, sizeLine_eq]
        omega
      · have e : ones ((tl z).take (i + 1)) = ones ((tl z).take i) ++ [(false, one d)] := by
          unfold ones
          rw [List.take_add_one, hd', List.map_append]
          rfl
        rw [e]
        exact ((iF.mono (same_tup sp)).snoc ⟨p, rfl, SqT.of upd_same⟩).mono (upd_tup gD1)
    · rintro G ⟨us, gD, iF, sm⟩
      rw [zs, List.take_length] at iF
      refine ⟨D, us, rfl, .inl ⟨SqL.of gD, fun p hp => ?_⟩⟩
      have sp := same_upd (o := .tup us) hp
      exact k _ _ (sm.trans sp) ⟨p, us, rfl, SqT.of upd_same, iF.mono (same_tup sp)⟩
end
end DW
namespace DW
open PySem PySem.Spec PyProof.Rows L2 TL
set_option autoImplicit false
theorem rep_mono (L : List Nat) {a b : Nat} (h : a ≤ b) : ((List.replicate a L).flatten).Sublist (List.replicate b L).flatten := by
  obtain ⟨k, rfl⟩ : ∃ k, b = a + k := ⟨b - a, by omega⟩
  rw [← List.replicate_append_replicate, List.flatten_append]
  exact List.sublist_append_left _ _
theorem unf_mono {a b : Nat} (h : a ≤ b) : ∀ fs : List Fc, (unf fs a).Sublist (unf fs b)
  | [] => List.Sublist.refl _
  | f :: fs => by
    show (piece a f ++ unf fs a).Sublist (piece b f ++ unf fs b)
    refine List.Sublist.append ?_ (unf_mono h fs)
    unfold piece
    by_cases e : f.1 = true
    · rw [if_pos e, if_pos e]
      exact rep_mono _ h
    · rw [if_neg e, if_neg e]
      exact List.Sublist.refl _
theorem over_unf {z : Str} {fs : List Fc} (ok : ∀ f ∈ fs, FOk z f) {m : Nat} {c : Nat} (hc : c ∈ unf fs m) : c ∈ tl z := by
  unfold unf at hc
  obtain ⟨l, hl, hc⟩ := List.mem_flatten.mp hc
  obtain ⟨f, hf, rfl⟩ := List.mem_map.mp hl
  refine (ok f hf).2.1.subset ?_
  unfold piece at hc
  by_cases e : f.1 = true
  · rw [if_pos e] at hc
    obtain ⟨l, hl, hc⟩ := List.mem_flatten.mp hc
    rw [List.eq_of_mem_replicate hl] at hc
    exact hc
  · rw [if_neg e] at hc
    exact hc
/-! ### lists of products -/
def pD (fs : List Fc) : PyData := .tuple (fs.map fD)
theorem IsFs.dp {K : PySem.W.Frag} {H : Hp} : ∀ {vs : List V} {fs : List Fc}, IsFs K H vs fs → DpAll K H vs (fs.map fD)
  | _, _, .nil => .nil
  | _, _, .cons h r => .cons h.dp r.dp
theorem IsP.dp {K : PySem.W.Frag} {H : Hp} {v : V} {fs : List Fc} (h : IsP K H v fs) : Dp K H v (pD fs) := by
  obtain ⟨a, xs, rfl, q, r⟩ := h
  exact .tup q r.dp
structure GoodP (K : PySem.W.Frag) (H : Hp) (z : Str) (v : V) (q : List Fc) : Prop where
  isp : IsP K H v q
  ok : ∀ f ∈ q, FOk z f
  len : q.length ≤ 6
inductive IsPs (K : PySem.W.Frag) (H : Hp) (z : Str) : List V → List (List Fc) → Prop where
  | nil : IsPs K H z [] []
  | cons {v : V} {f : List Fc} {vs : List V} {fs : List (List Fc)} (h : GoodP K H z v f) (r : IsPs K H z vs fs) : IsPs K H z (v :: vs) (f :: fs)
section
variable {K : PySem.W.Frag} {H H' : Hp} {z : Str}
theorem IsPs.snoc {v : V} {f : List Fc} : ∀ {vs : List V} {fs : List (List Fc)}, IsPs K H z vs fs → GoodP K H z v f → IsPs K H z (vs ++ [v]) (fs ++ [f])
  | _, _, .nil, h => .cons h .nil
  | _, _, .cons a r, h => .cons a (r.snoc h)
theorem IsPs.len : ∀ {vs : List V} {fs : List (List Fc)}, IsPs K H z vs fs → vs.length = fs.length
  | _, _, .nil => rfl
  | _, _, .cons _ r => by rw [List.length_cons, List.length_cons, r.len]
theorem IsPs.get : ∀ {vs : List V} {fs : List (List Fc)}, IsPs K H z vs fs → ∀ (i : Nat) (v : V), vs[i]? = some v → ∃ f, fs[i]? = some f ∧ GoodP K H z v f
  | _, _, .nil, i, v, h => by simp at h
  | _, _, .cons a r, 0, v, h => by
    have e := Option.some.inj h
    subst e
    exact ⟨_, rfl, a⟩
  | _, _, .cons a r, i + 1, v, h => r.get i v h
theorem GoodP.mono {v : V} {q : List Fc} (m : ∀ b xs, SqT K H b xs → SqT K H' b xs) (g : GoodP K H z v q) : GoodP K H' z v q := ⟨g.isp.mono m, g.ok, g.len⟩
theorem IsPs.mono (m : ∀ b xs, SqT K H b xs → SqT K H' b xs) : ∀ {vs : List V} {fs : List (List Fc)}, IsPs K H z vs fs → IsPs K H' z vs fs
  | _, _, .nil => .nil
  | _, _, .cons a r => .cons (a.mono m) (r.mono m)
theorem IsPs.dp : ∀ {vs : List V} {fs : List (List Fc)}, IsPs K H z vs fs → DpAll K H vs (fs.map pD)
  | _, _, .nil => .nil
  | _, _, .cons h r => .cons h.isp.dp r.dp
end
theorem lay_fs {z : Str} (al : Alph z) : ∀ fs : List Fc, (∀ f ∈ fs, FOk z f) → PyData.canLayAll0 (fs.map fD) = true ∧ PyData.depthAll (fs.map fD) ≤ 1
  | [], _ => ⟨rfl, by simp [PyData.depthAll]⟩
  | f :: fs, h => by
    obtain ⟨h1, h2⟩ := lay_fs al fs fun g hg => h g (List.mem_cons_of_mem _ hg)
    have hf := fD_shaped (fok_low al (h f List.mem_cons_self))
    unfold SeqAt.shaped at hf
    rw [Bool.and_eq_true] at hf
    have d1 : (fD f).depth ≤ 1 := by simp [fD, PyData.depth, PyData.depthAll]
    rw [List.map_cons]
    refine ⟨by simp only [PyData.canLayAll0, hf.1, h1, Bool.and_self], ?_⟩
    simp only [PyData.depthAll]
    omega
theorem lay_ps {z : Str} (al : Alph z) : ∀ qs : List (List Fc), (∀ q ∈ qs, ∀ f ∈ q, FOk z f) → PyData.canLayAll0 (qs.map pD) = true ∧ PyData.depthAll (qs.map pD) ≤ 2
  | [], _ => ⟨rfl, by simp [PyData.depthAll]⟩
  | q :: qs, h => by
    obtain ⟨h1, h2⟩ := lay_ps al qs fun g hg => h g (List.mem_cons_of_mem _ hg)
    obtain ⟨h3, h4⟩ := lay_fs al q (h q List.mem_cons_self)
    rw [List.map_cons]
    refine ⟨by simp only [PyData.canLayAll0, pD, PyData.canLay0, h3, h1, Bool.and_self], ?_⟩
    simp only [PyData.depthAll, pD, PyData.depth]
    omega
theorem ps_shaped {z : Str} (al : Alph z) {qs : List (List Fc)} (h : ∀ q ∈ qs, ∀ f ∈ q, FOk z f) : SeqAt.shaped (.list (qs.map pD)) = true := by
  obtain ⟨h1, h2⟩ := lay_ps al qs h
  unfold SeqAt.shaped
  rw [Bool.and_eq_true]
  refine ⟨by simp only [PyData.canLay0, h1], decide_eq_true ?_⟩
  simp only [PyData.depth]
  omega
theorem nil_shaped : SeqAt.shaped (.list []) = true := by decide +kernel
theorem eqv_nil (ds : List PyData) : PyData.eqv (.list ds) (.list []) = ds.isEmpty := by
  cases ds <;> simp [PyData.eqv, PyData.eqvAll]
theorem IsPs.oks {K : PySem.W.Frag} {H : Hp} {z : Str} : ∀ {vs : List V} {fs : List (List Fc)}, IsPs K H z vs fs → ∀ q ∈ fs, (∀ f ∈ q, FOk z f) ∧ q.length ≤ 6
  | _, _, .nil, q, h => (nomatch h)
  | _, _, .cons a r, q, h => by
    rcases List.mem_cons.mp h with e | e
    · rw [e]
      exact ⟨a.ok, a.len⟩
    · exact r.oks q e
/-! ### slices and sums of tuples -/
theorem sl_any {K : PySem.W.Frag} {H : Hp} {a : Addr} {xs : List V} {lo hi : Option Int} {Q : VK} (ha : SqT K H a xs) (k : ∀ H' a', Same H H' → SqT K H' a' (cutV xs lo hi) → Q (.ref a') H') : rSlA K (.ref a) lo hi H Q := by
  refine ⟨a, xs, rfl, ha, fun h => k H a (Same.refl _) ?_, fun _ p hp => k _ p (same_upd hp) (SqT.of upd_same)⟩
  have e : cutV xs lo hi = xs := by
    unfold cutV
    rw [h.1, h.2, List.drop_zero, Nat.sub_zero, List.take_length]
  rw [e]
  exact ha
theorem cat_any {K : PySem.W.Frag} {H : Hp} {a b : Addr} {xs ys : List V} {Q : VK} (ha : SqT K H a xs) (hb : SqT K H b ys) (hl : xs.length + ys.length ≤ sizeLine) (k : ∀ H' a', Same H H' → SqT K H' a' (xs ++ ys) → Q (.ref a') H') : rCatA K (.ref a) (.ref b) H Q := by
  refine ⟨a, b, xs, ys, rfl, rfl, ha, hb, hl, fun h => k H b (Same.refl _) ?_, fun _ h => k H a (Same.refl _) ?_, fun _ _ p hp => k _ p (same_upd hp) (SqT.of upd_same)⟩
  · rw [h]
    exact hb
  · rw [h, List.append_nil]
    exact ha
theorem cut_take (xs : List V) {k : Int} (h0 : 0 ≤ k) (h : k ≤ xs.length) : cutV xs none (some k) = xs.take k.toNat := by
  obtain ⟨n, rfl⟩ := Int.eq_ofNat_of_zero_le h0
  unfold cutV
  rw [HT.sIx_none, HT.sIx_nat, List.drop_zero, Nat.sub_zero, Nat.min_eq_left (by omega)]
  rfl
theorem cut_drop (xs : List V) {k : Int} (h0 : 0 ≤ k) : cutV xs (some k) none = xs.drop k.toNat := by
  obtain ⟨n, rfl⟩ := Int.eq_ofNat_of_zero_le h0
  unfold cutV
  rw [HT.sIx_none, HT.sIx_nat]
  show List.take _ (List.drop (min n xs.length) xs) = xs.drop n
  by_cases c : n ≤ xs.length
  · rw [Nat.min_eq_left c]
    exact List.take_of_length_le (by rw [List.length_drop]; omega)
  · rw [Nat.min_eq_right (by omega), List.drop_length, List.drop_of_length_le (by omega), List.take_nil]
theorem IsFs.app {K : PySem.W.Frag} {H : Hp} : ∀ {vs us : List V} {fs gs : List Fc}, IsFs K H vs fs → IsFs K H us gs → IsFs K H (vs ++ us) (fs ++ gs)
  | _, _, _, _, .nil, h => h
  | _, _, _, _, .cons a r, h => .cons a (r.app h)
theorem IsFs.take {K : PySem.W.Frag} {H : Hp} : ∀ {vs : List V} {fs : List Fc} (n : Nat), IsFs K H vs fs → IsFs K H (vs.take n) (fs.take n)
  | _, _, 0, _ => .nil
  | _, _, _ + 1, .nil => .nil
  | _, _, n + 1, .cons a r => .cons a (r.take n)
theorem IsFs.drop {K : PySem.W.Frag} {H : Hp} : ∀ {vs : List V} {fs : List Fc} (n : Nat), IsFs K H vs fs → IsFs K H (vs.drop n) (fs.drop n)
  | _, _, 0, h => h
  | _, _, _ + 1, .nil => .nil
  | _, _, n + 1, .cons a r => r.drop n
end DW
/-! lists of texts, of numbers, and products as data -/
namespace DW
open PySem PySem.Spec PyProof.Rows L2 TL
set_option autoImplicit false
def strD (ws : List Str) : PyData := .list (ws.map PyData.str)
theorem str_dpAll {K : PySem.W.Frag} {H : Hp} : ∀ ws : List Str, DpAll K H (ws.map V.str) (ws.map PyData.str)
  | [] => .nil
  | x :: r => .cons (.str _) (str_dpAll r)
theorem str_dp {K : PySem.W.Frag} {H : Hp} {a : Addr} {ws : List Str} (h : SqL K H a (ws.map V.str)) : Dp K H (.ref a) (strD ws) := .lst h (str_dpAll ws)
theorem str_ok : ∀ (ws : List Str), (∀ u ∈ ws, (tl u).length ≤ 20 ∧ ∀ c ∈ tl u, c < 128) → PyData.canLayAll0 (ws.map PyData.str) = true ∧ PyData.depthAll (ws.map PyData.str) = 0 ∧ PyData.weightAll (ws.map PyData.str) ≤ 21 * ws.length ∧
    PyData.showableAll (ws.map PyData.str) = true ∧ PyData.hasDictAll (ws.map PyData.str) = false ∧ PyData.intsShortAll 13 (ws.map PyData.str) = true
  | [], _ => ⟨rfl, rfl, Nat.le_refl _, rfl, rfl, rfl⟩
  | u :: r, h => by
    obtain ⟨h1, h2, h3, h4, h5, h6⟩ := str_ok r fun q hq => h q (List.mem_cons_of_mem _ hq)
    obtain ⟨ul, uc⟩ := h u List.mem_cons_self
    have us : u.cps.size = (tl u).length := (Array.length_toList).symm
    have so : PyData.strOk u = true := by
      unfold PyData.strOk
      rw [Array.all_eq_true]
      intro i hi
      have := uc u.cps[i] (by show u.cps[i] ∈ u.cps.toList; rw [Array.mem_toList_iff]; exact Array.getElem_mem hi)
      exact decide_eq_true (by omega)
    rw [List.map_cons]
    refine ⟨by simp only [PyData.canLayAll0, PyData.canLay0, so, h1, Bool.and_self], by simp only [PyData.depthAll, PyData.depth, h2]; rfl, ?_, by simp only [PyData.showableAll, PyData.showable, h4, Bool.and_self], by simp only [PyData.hasDictAll, PyData.hasDict, h5, Bool.or_self], by simp only [PyData.intsShortAll, PyData.intsShort, h6, Bool.and_self]⟩
    simp only [PyData.weightAll, PyData.weight, List.length_cons]
    omega
theorem str_shaped {ws : List Str} (h : ∀ u ∈ ws, (tl u).length ≤ 20 ∧ ∀ c ∈ tl u, c < 128) : SeqAt.shaped (strD ws) = true := by
  obtain ⟨h1, h2, _⟩ := str_ok ws h
  unfold SeqAt.shaped strD
  rw [Bool.and_eq_true]
  exact ⟨by simp only [PyData.canLay0, h1], decide_eq_true (by simp only [PyData.depth, h2]; omega)⟩
theorem str_eqv {ws : List Str} (h : ∀ u ∈ ws, (tl u).length ≤ 20 ∧ ∀ c ∈ tl u, c < 128) : PyData.eqv (strD ws) (strD ws) = true := by
  obtain ⟨h1, _⟩ := str_ok ws h
  exact PySem.SeqAt.eqv_refl _ (by unfold strD; simp only [PyData.canLay0, h1])
theorem str_eqv_nil (ws : List Str) : PyData.eqv (strD ws) (.list []) = ws.isEmpty := by
  unfold strD
  cases ws <;> simp [PyData.eqv, PyData.eqvAll]
theorem nat_uniq : ∀ (l m : List Nat), l.Pairwise (· < ·) → m.Pairwise (· < ·) → (∀ k, k ∈ l ↔ k ∈ m) → l = m
  | [], [], _, _, _ => rfl
  | [], b :: m, _, _, h => by
    have := (h b).mpr List.mem_cons_self
    cases this
  | a :: l, [], _, _, h => by
    have := (h a).mp List.mem_cons_self
    cases this
  | a :: l, b :: m, p, q, h => by
    obtain ⟨pa, p'⟩ := List.pairwise_cons.mp p
    obtain ⟨qb, q'⟩ := List.pairwise_cons.mp q
    have ab : a = b := by
      rcases List.mem_cons.mp ((h a).mp List.mem_cons_self) with e | e
      · exact e
      · rcases List.mem_cons.mp ((h b).mpr List.mem_cons_self) with f | f
        · exact f.symm
        · have h1 := pa b f
          have h2 := qb a e
          omega
    subst ab
    have e := nat_uniq l m p' q' fun k => by
      constructor
      · intro hk
        rcases List.mem_cons.mp ((h k).mp (List.mem_cons_of_mem _ hk)) with e | e
        · have := pa k hk
          omega
        · exact e
      · intro hk
        rcases List.mem_cons.mp ((h k).mpr (List.mem_cons_of_mem _ hk)) with e | e
        · have := qb k hk
          omega
        · exact e
    rw [e]
theorem ones_ok {cs : List Nat} (h : ∀ c ∈ cs, c < 128) : ∀ u ∈ cs.map one, (tl u).length ≤ 20 ∧ ∀ c ∈ tl u, c < 128 := fun u hu => by
  obtain ⟨c, hc, rfl⟩ := List.mem_map.mp hu
  rw [tl_one]
  exact ⟨by show 1 ≤ 20; decide, fun d hd => by rw [List.mem_singleton.mp hd]; exact h c hc⟩
def intD (ns : List Int) : PyData := .list (ns.map PyData.int)
theorem int_dpAll {K : PySem.W.Frag} {H : Hp} : ∀ ns : List Int, DpAll K H (ns.map V.int) (ns.map PyData.int)
  | [] => .nil
  | x :: r => .cons (.int _) (int_dpAll r)
theorem int_dp {K : PySem.W.Frag} {H : Hp} {a : Addr} {ns : List Int} (h : SqL K H a (ns.map V.int)) : Dp K H (.ref a) (intD ns) := .lst h (int_dpAll ns)
theorem int_ok : ∀ ns : List Int, PyData.canLayAll0 (ns.map PyData.int) = true ∧ PyData.depthAll (ns.map PyData.int) = 0
  | [] => ⟨rfl, rfl⟩
  | x :: r => by
    obtain ⟨h1, h2⟩ := int_ok r
    rw [List.map_cons]
    exact ⟨by simp only [PyData.canLayAll0, PyData.canLay0, h1, Bool.and_self], by simp only [PyData.depthAll, PyData.depth, h2]; rfl⟩
theorem int_shaped (ns : List Int) : SeqAt.shaped (intD ns) = true := by
  obtain ⟨h1, h2⟩ := int_ok ns
  unfold SeqAt.shaped intD
  rw [Bool.and_eq_true]
  exact ⟨by simp only [PyData.canLay0, h1], decide_eq_true (by simp only [PyData.depth, h2]; omega)⟩
theorem int_eqv_nil (ns : List Int) : PyData.eqv (intD ns) (.list []) = ns.isEmpty := by
  unfold intD
  cases ns <;> simp [PyData.eqv, PyData.eqvAll]
theorem fs_eqv : ∀ fs gs : List Fc, PyData.eqvAll (fs.map fD) (gs.map fD) = decide (fs = gs)
  | [], [] => rfl
  | [], _ :: _ => by simp [PyData.eqvAll]
  | _ :: _, [] => by simp [PyData.eqvAll]
  | f :: fs, g :: gs => by
    rw [List.map_cons, List.map_cons]
    simp only [PyData.eqvAll]
    rw [fD_eqv, fs_eqv fs gs, Bool.eq_iff_iff]
    simp
theorem pD_eqv (fs gs : List Fc) : PyData.eqv (pD fs) (pD gs) = decide (fs = gs) := by
  unfold pD
  simp only [PyData.eqv]
  exact fs_eqv fs gs
theorem pD_shaped {z : Str} (al : Alph z) {fs : List Fc} (h : ∀ f ∈ fs, FOk z f) : SeqAt.shaped (pD fs) = true := by
  obtain ⟨h1, h2⟩ := lay_fs al fs h
  unfold SeqAt.shaped pD
  rw [Bool.and_eq_true]
  refine ⟨by simp only [PyData.canLay0, h1], decide_eq_true ?_⟩
  simp only [PyData.depth]
  omega
theorem atI_of {α : Type} {xs : List α} {i : Int} {j : Nat} {v : α} (e : i = (j : Int)) (h : xs[j]? = some v) : atI xs i = some v := by
  rw [e]
  exact atI_nat h
end DW
/-! reduced products: the stack, its words, and what put-in factors do to it -/
namespace DW
open PySem PySem.Spec PyProof.Rows L2 TL
set_option autoImplicit false
/-- the kept factors, the last one first, after one factor more -/
def stp (st : List Fc) (f : Fc) : List Fc := match st.dropWhile (sw f) with
  | [] => [f]
  | g :: r => if sw g f = true then g :: r else f :: g :: r
def red (fs : List Fc) : List Fc := (fs.foldl stp []).reverse
/-! ### words -/
theorem Lg.in_one {g : Fc} {u : List Nat} (h : Lg [g] u) : ∀ c ∈ u, c ∈ ls g := by
  intro c hc
  obtain ⟨a, b, rfl⟩ := List.append_of_mem hc
  obtain ⟨g', hg, q⟩ := (Lg.drop h).has
  rw [List.mem_singleton.mp hg] at q
  exact q
theorem sw_star {g f : Fc} (h : sw g f = true) : g.1 = true := (Bool.and_eq_true_iff.mp h).1
theorem sw_sub {g f : Fc} (h : sw g f = true) : ∀ c ∈ ls f, c ∈ ls g := fun c hc => of_decide_eq_true (List.all_eq_true.mp (Bool.and_eq_true_iff.mp h).2 c hc)
theorem sw_of {g f : Fc} (k : g.1 = true) (h : ∀ c ∈ ls f, c ∈ ls g) : sw g f = true := Bool.and_eq_true_iff.mpr ⟨k, List.all_eq_true.mpr fun c hc => decide_eq_true (h c hc)⟩
theorem sw_trans {g s m : Fc} (h : sw g s = true) (k : sw s m = true) : sw g m = true := sw_of (sw_star h) fun c hc => sw_sub h c (sw_sub k c hc)
theorem lg_cong {a b x y : List Fc} (h : ∀ u, Lg x u ↔ Lg y u) (w : List Nat) : Lg (a ++ (x ++ b)) w ↔ Lg (a ++ (y ++ b)) w := by
  constructor
  · intro q
    obtain ⟨u, v, rfl, h1, h2⟩ := q.split
    obtain ⟨u', v', rfl, h3, h4⟩ := h2.split
    exact h1.app (((h u').mp h3).app h4)
  · intro q
    obtain ⟨u, v, rfl, h1, h2⟩ := q.split
    obtain ⟨u', v', rfl, h3, h4⟩ := h2.split
    exact h1.app (((h u').mpr h3).app h4)
theorem lg_front {f g : Fc} (h : sw f g = true) (u : List Nat) : Lg [g, f] u ↔ Lg [f] u := by
  constructor
  · intro q
    obtain ⟨a, b, rfl, h1, h2⟩ := Lg.split (fs := [g]) (gs := [f]) q
    rw [Lg.one_star (sw_star h)] at h2 ⊢
    intro c hc
    rcases List.mem_append.mp hc with z | z
    · exact sw_sub h c (h1.in_one c z)
    · exact h2 c z
  · intro q
    exact .skip q
theorem lg_back {f g : Fc} (h : sw g f = true) (u : List Nat) : Lg [g, f] u ↔ Lg [g] u := by
  constructor
  · intro q
    obtain ⟨a, b, rfl, h1, h2⟩ := Lg.split (fs := [g]) (gs := [f]) q
    rw [Lg.one_star (sw_star h)] at h1 ⊢
    intro c hc
    rcases List.mem_append.mp hc with z | z
    · exact h1 c z
    · exact sw_sub h c (h2.in_one c z)
  · intro q
    have := q.app (Lg.empty [f])
    rw [List.append_nil] at this
    exact this
theorem lg_drop (f : Fc) (b : List Fc) (w : List Nat) : ∀ st : List Fc, Lg (st.reverse ++ ([f] ++ b)) w ↔ Lg ((st.dropWhile (sw f)).reverse ++ ([f] ++ b)) w
  | [] => Iff.rfl
  | g :: st => by
    rw [List.dropWhile_cons]
    by_cases h : sw f g = true
    · rw [if_pos h, ← lg_drop f b w st, List.reverse_cons, List.append_assoc]
      have := lg_cong (a := st.reverse) (b := b) (lg_front h) w
      exact this
    · rw [if_neg h]
theorem stp_lg (f : Fc) (b st : List Fc) (w : List Nat) : Lg (st.reverse ++ (f :: b)) w ↔ Lg ((stp st f).reverse ++ b) w := by
  have e := lg_drop f b w st
  rw [show ([f] ++ b) = f :: b from rfl] at e
  rw [e]
  unfold stp
  cases q : st.dropWhile (sw f) with
  | nil => exact Iff.rfl
  | cons g r =>
    show _ ↔ Lg ((if sw g f = true then g :: r else f :: g :: r).reverse ++ b) w
    by_cases h : sw g f = true
    · rw [if_pos h, List.reverse_cons, List.append_assoc, List.append_assoc]
      exact lg_cong (a := r.reverse) (b := b) (lg_back h) w
    · rw [if_neg h]
      simp
theorem fold_lg (w : List Nat) : ∀ (fs st : List Fc), Lg (st.reverse ++ fs) w ↔ Lg (fs.foldl stp st).reverse w
  | [], st => by rw [List.append_nil]; rfl
  | f :: fs, st => by
    rw [stp_lg f fs st w]
    exact fold_lg w fs (stp st f)
theorem red_lg (fs : List Fc) (w : List Nat) : Lg fs w ↔ Lg (red fs) w := fold_lg w fs []
/-! ### neighbours -/
def Apart : List Fc → Prop
  | [] => True
  | [_] => True
  | f :: g :: r => sw f g = false ∧ sw g f = false ∧ Apart (g :: r)
theorem Apart.tail {f : Fc} {r : List Fc} (h : Apart (f :: r)) : Apart r := by
  cases r with
  | nil => trivial
  | cons g r => exact h.2.2
theorem Apart.dw (p : Fc → Bool) : ∀ {st : List Fc}, Apart st → Apart (st.dropWhile p)
  | [], _ => trivial
  | g :: st, h => by
    rw [List.dropWhile_cons]
    by_cases q : p g = true
    · rw [if_pos q]
      exact Apart.dw p h.tail
    · rw [if_neg q]
      exact h
theorem dw_top {p : Fc → Bool} : ∀ {st r : List Fc} {g : Fc}, st.dropWhile p = g :: r → p g = false
  | [], _, _, h => by cases h
  | x :: st, r, g, h => by
    rw [List.dropWhile_cons] at h
    by_cases q : p x = true
    · rw [if_pos q] at h
      exact dw_top h
    · rw [if_neg q] at h
      rw [← (List.cons.inj h).1]
      simpa using q
theorem stp_apart {st : List Fc} {f : Fc} (h : Apart st) : Apart (stp st f) := by
  unfold stp
  have h' := h.dw (sw f)
  cases q : st.dropWhile (sw f) with
  | nil => trivial
  | cons g r =>
    rw [q] at h'
    show Apart (if sw g f = true then g :: r else f :: g :: r)
    by_cases k : sw g f = true
    · rw [if_pos k]
      exact h'
    · rw [if_neg k]
      exact ⟨dw_top q, by simpa using k, h'⟩
theorem fold_apart : ∀ (fs st : List Fc), Apart st → Apart (fs.foldl stp st)
  | [], _, h => h
  | f :: fs, st, h => fold_apart fs (stp st f) (stp_apart h)
theorem stp_push {f : Fc} {r : List Fc} (h : Apart (f :: r)) : stp r f = f :: r := by
  unfold stp
  cases r with
  | nil => rfl
  | cons g r =>
    rw [List.dropWhile_cons, if_neg (by rw [h.1]; simp)]
    show (if sw g f = true then _ else _) = _
    rw [if_neg (by rw [h.2.1]; simp)]
theorem fold_rev : ∀ l : List Fc, Apart l → l.reverse.foldl stp [] = l
  | [], _ => rfl
  | f :: r, h => by
    rw [List.reverse_cons, List.foldl_append, fold_rev r h.tail]
    exact stp_push h
theorem red_red (fs : List Fc) : red (red fs) = red fs := by
  unfold red
  rw [fold_rev _ (fold_apart fs [] trivial)]
/-! ### factors put in -/
theorem dw_dw {p q : Fc → Bool} (h : ∀ x, p x = true → q x = true) : ∀ l : List Fc, (l.dropWhile p).dropWhile q = l.dropWhile q
  | [] => rfl
  | x :: l => by
    rw [List.dropWhile_cons (p := p)]
    by_cases k : p x = true
    · rw [if_pos k, dw_dw h l, List.dropWhile_cons, if_pos (h x k)]
    · rw [if_neg k]
theorem pad_front {s m : Fc} (h : sw s m = true) (st : List Fc) : stp (stp st m) s = stp st s := by
  have e : (stp st m).dropWhile (sw s) = st.dropWhile (sw s) := by
    have d := dw_dw (p := sw m) (q := sw s) (fun x hx => sw_trans h hx) st
    rw [← d]
    unfold stp
    cases q : st.dropWhile (sw m) with
    | nil =>
      show [m].dropWhile (sw s) = _
      rw [List.dropWhile_cons, if_pos h]
    | cons g r =>
      show (if sw g m = true then g :: r else m :: g :: r).dropWhile (sw s) = _
      by_cases k : sw g m = true
      · rw [if_pos k]
      · rw [if_neg k, List.dropWhile_cons, if_pos h]
  unfold stp at e ⊢
  rw [e]
theorem pad_back {s m : Fc} {st : List Fc} (h : sw s m = true) (ha : Apart st) (anti : ∀ x ∈ stp st s, sw m x = true → sw x m = true → m = x) : stp (stp st s) m = stp st s := by
  have hA : Apart (stp st s) := stp_apart ha
  obtain ⟨g, r, e, k⟩ : ∃ g r, stp st s = g :: r ∧ sw g m = true := by
    unfold stp
    cases q : st.dropWhile (sw s) with
    | nil => exact ⟨s, [], rfl, h⟩
    | cons g r =>
      by_cases k : sw g s = true
      · exact ⟨g, r, if_pos k, sw_trans k h⟩
      · exact ⟨s, g :: r, if_neg k, h⟩
  rw [e] at hA anti ⊢
  by_cases q : sw m g = true
  · have em := anti g List.mem_cons_self q k
    subst em
    have e2 : stp (m :: r) m = stp r m := by
      unfold stp
      rw [List.dropWhile_cons, if_pos q]
    rw [e2]
    exact stp_push hA
  · unfold stp
    rw [List.dropWhile_cons, if_neg q]
    show (if sw g m = true then _ else _) = _
    rw [if_pos k]
theorem red_front {s m : Fc} (h : sw s m = true) (a b : List Fc) : red (a ++ m :: s :: b) = red (a ++ s :: b) := by
  unfold red
  rw [List.foldl_append, List.foldl_append]
  show (b.foldl stp (stp (stp (a.foldl stp []) m) s)).reverse = _
  rw [pad_front h]
  rfl
theorem red_back {s m : Fc} (h : sw s m = true) (a b : List Fc) (anti : ∀ x ∈ stp (a.foldl stp []) s, sw m x = true → sw x m = true → m = x) : red (a ++ s :: m :: b) = red (a ++ s :: b) := by
  unfold red
  rw [List.foldl_append, List.foldl_append]
  show (b.foldl stp (stp (stp (a.foldl stp []) s) m)).reverse = _
  rw [pad_back h (fold_apart a [] trivial) anti]
  rfl
/-! ### nothing new is kept -/
theorem stp_mem {f : Fc} {st : List Fc} {x : Fc} (h : x ∈ stp st f) : x = f ∨ x ∈ st := by
  unfold stp at h
  have dm : ∀ y, y ∈ st.dropWhile (sw f) → y ∈ st := fun y hy => (List.dropWhile_sublist _).subset hy
  cases q : st.dropWhile (sw f) with
  | nil =>
    rw [q] at h
    exact .inl (List.mem_singleton.mp h)
  | cons g r =>
    rw [q] at h dm
    have h' : x ∈ (if sw g f = true then g :: r else f :: g :: r) := h
    by_cases k : sw g f = true
    · rw [if_pos k] at h'
      exact .inr (dm x h')
    · rw [if_neg k] at h'
      rcases List.mem_cons.mp h' with z | z
      · exact .inl z
      · exact .inr (dm x z)
theorem fold_mem : ∀ (fs st : List Fc) (x : Fc), x ∈ fs.foldl stp st → x ∈ fs ∨ x ∈ st
  | [], _, _, h => .inr h
  | f :: fs, st, x, h => by
    rcases fold_mem fs (stp st f) x h with q | q
    · exact .inl (List.mem_cons_of_mem _ q)
    · rcases stp_mem q with z | z
      · exact .inl (z ▸ List.mem_cons_self)
      · exact .inr z
theorem red_mem {fs : List Fc} {x : Fc} (h : x ∈ red fs) : x ∈ fs := by
  rcases fold_mem fs [] x (List.mem_reverse.mp h) with q | q
  · exact q
  · cases q
end DW
/-! reduce_product -/
namespace DW
open PySem PySem.Spec PyProof.Rows L2 TL
set_option autoImplicit false
def spRd (K : PySem.W.Frag) : Sp := fun vs H Q _ => ∃ (v : V) (fs : List Fc), vs = [v] ∧ IsP K H v fs ∧ (∀ f ∈ fs, (ls f).length ≤ 1000) ∧ fs.length ≤ 100000 ∧ ∀ H' u, Same H H' → IsP K H' u (red fs) → Q u H'
theorem IsFs.unsnoc {K : PySem.W.Frag} {H : Hp} {g : Fc} : ∀ {fs : List Fc} {vs : List V}, IsFs K H vs (fs ++ [g]) → ∃ us v, vs = us ++ [v] ∧ IsFs K H us fs ∧ IsF K H v g := by
  intro fs
  induction fs with
  | nil =>
    intro vs h
    have h' : IsFs K H vs (g :: []) := h
    cases h' with
    | cons a r =>
      cases r
      exact ⟨[], _, rfl, .nil, a⟩
  | cons f fs ih =>
    intro vs h
    have h' : IsFs K H vs (f :: (fs ++ [g])) := h
    cases h' with
    | cons a r =>
      obtain ⟨us, v, e, h1, h2⟩ := ih r
      exact ⟨_ :: us, v, by rw [e]; rfl, .cons a h1, h2⟩
theorem stp_len (st : List Fc) (f : Fc) : (stp st f).length ≤ st.length + 1 := by
  have h := (List.dropWhile_suffix (l := st) (sw f)).length_le
  unfold stp
  split
  · simp
  · rename_i g r e
    rw [e] at h
    by_cases c : sw g f = true
    · rw [if_pos c]
      omega
    · rw [if_neg c, List.length_cons]
      omega
theorem dw_mem {p : Fc → Bool} {st : List Fc} {g : Fc} {r : List Fc} (e : st.dropWhile p = g :: r) : g ∈ st := (List.dropWhile_suffix (l := st) p).subset (by rw [e]; exact List.mem_cons_self)
section
variable {P : Program} {w : World} {K : PySem.W.Frag} {mg : Str → Option Value} {base : Heap}
theorem scRd : FnScope ["product", "kept", "factor"] ["product"] (defScope sReduceProduct) := ⟨rfl, rfl, rfl, by decide +kernel, rfl, by decide +kernel, by decide +kernel⟩
theorem ok_rd (D : Df K mg "reduce_product" sReduceProduct ["product"]) (Ds0 : Df K mg "swallows" sSwallows ["factor", "other"]) (ma : mg "all" = none) (mt : mg "tuple" = none) : FnOk P w K mg base CX0 2 D.f D.fd ["product"] (spRd K) := by
  have Gs : FnOk P w K mg base CX0 1 Ds0.f Ds0.fd ["factor", "other"] (spSw K) := ok_sw Ds0 ma
  refine D.F.ok scRd (fun vs H Q E h => ?_) (fun cdv A outer s H vs Q E hr h => ?_)
  · obtain ⟨v, fs, rfl, _⟩ := h
    rfl
  · obtain ⟨v, fs, rfl, ⟨a, xs, rfl, hq, iF⟩, fl, l1, k⟩ := h
    refine ⟨_, PSs.nox (pss_cons (ps_set (i := 1) scRd.nd rfl (.inl rfl) (pe_lst pa_nil)) (pss_cons (ps_for PassesOwn.never rfl (pi_tup (pv 0)) (pg_name (i := 2) scRd.nd rfl (.inl rfl)) (C8.pss_cut (ps_while PassesOwn.never (pw_and (pt_truth (pv 1) (by intro _; rfl)) (pw_and1 (pt_val (pe_call Gs hr (by rfl) Ds0.g Ds0.F.kp Ds0.b .nil pass0 (pa_cons (pv 2) (pa_cons (pe_ix ix_list (pv 1) (pe_un un_neg pe_int) (fun _ _ => rfl)) pa_nil)))))).pt (pss_one (ps_expr (pe_bm0 PySem.F.plainAttrs_list PySem.F.slot_list_pop PySem.F.type_list_pop mt_pop (pv 1))))) (pss_one (ps_if (pw_or (pt_not (pt_truth (pv 1) (by intro _; rfl))) (pw_or1 (pt_not (pt_val (pe_call Gs hr (by rfl) Ds0.g Ds0.F.kp Ds0.b .nil pass0 (pa_cons (pe_ix ix_list (pv 1) (pe_un un_neg pe_int) (fun _ _ => rfl)) (pa_cons (pv 2) pa_nil))))))).pt (pss_one (ps_expr (pe_bm PySem.F.plainAttrs_list PySem.F.slot_list_append PySem.F.type_list_append mt_append (pv 1) (pa_cons (pv 2) pa_nil)))) pss_nil)))) (pss_one (ps_ret (pe_callTy call_tuple_of (by rfl) mt (by decide +kernel) (pa_cons (pv 1) pa_nil)))))), ?_⟩
    refine ⟨by show 0 ≤ sizeLine; decide, fun L hL => ?_⟩
    have sL := same_upd (o := .lst []) hL
    have xl := iF.len
    refine ⟨.ref a, rfl, a, rfl, ⟨xs, same_tup sL _ _ hq⟩, for_it (walk_tup (xs := xs)) (fun i σ H' => ∃ (us : List V) (st : List Fc) (y2 : Option V), σ = [some (.ref a), some (.ref L), y2] ∧ H' L = some (.lst us) ∧ IsFs K H' us st.reverse ∧ st = (fs.take i).foldl stp [] ∧ st.length ≤ i ∧ (∀ g ∈ st, g ∈ fs) ∧ Same H H')
      ⟨[], [], _, rfl, upd_same, .nil, rfl, Nat.le_refl _, fun g hg => (nomatch hg), sL⟩ (fun _ _ H' _ ⟨_, _, _, _, _, _, _, _, _, sm⟩ => same_tup sm _ _ hq) ?_ ?_⟩
    · rintro i x σ G G' hi ⟨us, st, y2, rfl, gL, iU, est, stl, stm, sm⟩ ⟨rfl, hx⟩
      obtain ⟨f, hf, isf0⟩ := iF.get i x hx
      have fm : f ∈ fs := List.mem_of_getElem? hf
      have il : i < fs.length := by omega
      refine ⟨fun σ' H' => ∃ us : List V, σ' = [some (.ref a), some (.ref L), some x] ∧ H' L = some (.lst us) ∧ IsFs K H' us (st.dropWhile (sw f)).reverse ∧ Same H H', ?_, ?_⟩
      · refine ⟨fun m σ' H' => ∃ (us : List V) (st' : List Fc), σ' = [some (.ref a), some (.ref L), some x] ∧ H' L = some (.lst us) ∧ IsFs K H' us st'.reverse ∧ st'.dropWhile (sw f) = st.dropWhile (sw f) ∧ (∀ g ∈ st', g ∈ fs) ∧ m = st'.length ∧ Same H H', ⟨_, us, st, rfl, gL, iU, rfl, stm, rfl, sm⟩, ?_⟩
        rintro m σ' H' ⟨us, st', rfl, gL, iU, ed, stm', rfl, sm⟩
        cases st' with
        | nil =>
          cases iU
          refine ⟨.ref L, rfl, false, .inl ⟨_, SqL.of gL, rfl⟩, iteF (iteF ⟨[], rfl, gL, ?_, sm⟩)⟩
          rw [← ed]
          exact .nil
        | cons g r =>
          rw [List.reverse_cons] at iU
          obtain ⟨us0, v, rfl, iU0, isg⟩ := iU.unsnoc
          refine ⟨.ref L, rfl, true, .inl ⟨_, SqL.of gL, by simp⟩, iteT ?_⟩
          have gm := fl g (stm' g List.mem_cons_self)
          refine ⟨x, rfl, .ref L, rfl, 1, rfl, L, us0 ++ [v], -1, v, rfl, rfl, SqL.of gL, atI_last us0 v, x, v, f, g, rfl, isf0.mono (same_tup sm), isg, gm, fun H2 s2 => ⟨_, rfl, ite2 (fun e => ?_) (fun e => ?_)⟩⟩
          · refine ⟨fun σ' H' => ∃ us : List V, σ' = [some (.ref a), some (.ref L), some x] ∧ H' L = some (.lst us) ∧ IsFs K H' us r.reverse ∧ Same H H', fun σ' H' h => ?_, ?_⟩
            · obtain ⟨us, rfl, gL', iU', sm'⟩ := h
              refine ⟨r.length, by simp, us, r, rfl, gL', iU', ?_, fun g hg => stm' g (List.mem_cons_of_mem _ hg), rfl, sm'⟩
              rw [← ed, List.dropWhile_cons, if_pos e]
            · have gL2 := s2 _ _ gL
              refine ⟨.ref L, rfl, .inl ⟨rfl, _, SqL.of gL2⟩, L, us0 ++ [v], v, rfl, rfl, gL2, by simp, us0, rfl, ?_, (iU0.mono (same_tup s2)).mono (upd_tup gL2), fun b o e => (upd_ne (ne_of_none e hL)).trans ((sm.trans s2) _ _ e)⟩
              rw [upd_same, List.dropLast_concat]
          · have e' : sw f g = false := by simpa using e
            refine ⟨us0 ++ [v], rfl, s2 _ _ gL, ?_, sm.trans s2⟩
            rw [← ed, List.dropWhile_cons, if_neg e, List.reverse_cons]
            exact (iU0.snoc isg).mono (same_tup s2)
      · rintro σ' H' ⟨us, rfl, gL, iU, sm⟩
        have tk : (fs.take (i + 1)).foldl stp [] = stp st f := by
          rw [List.take_add_one, hf, est]
          exact List.foldl_append
        have sl := stp_len st f
        have smem : ∀ g ∈ stp st f, g ∈ fs := fun g hg => by
          rcases stp_mem hg with q | q
          · rw [q]; exact fm
          · exact stm g q
        have push : ∀ {H2 : Hp}, H2 L = some (.lst us) → IsFs K H2 us (st.dropWhile (sw f)).reverse → Same H H2 → stp st f = f :: st.dropWhile (sw f) →
            ∃ (us' : List V) (st' : List Fc) (y2 : Option V), [some (V.ref a), some (.ref L), some x] = [some (.ref a), some (.ref L), y2] ∧ (upd H2 L (.lst (us ++ [x]))) L = some (.lst us') ∧ IsFs K (upd H2 L (.lst (us ++ [x]))) us' st'.reverse ∧ st' = (fs.take (i + 1)).foldl stp [] ∧ st'.length ≤ i + 1 ∧ (∀ g ∈ st', g ∈ fs) ∧ Same H (upd H2 L (.lst (us ++ [x]))) := by
          intro H2 gL2 iU2 sm2 e
          refine ⟨us ++ [x], stp st f, _, rfl, upd_same, ?_, tk.symm, by omega, smem, fun b o e => (upd_ne (ne_of_none e hL)).trans (sm2 _ _ e)⟩
          rw [e, List.reverse_cons]
          exact (iU2.snoc (isf0.mono (same_tup sm2))).mono (upd_tup gL2)
        have usl : us.length < sizeLine := by
          rw [iU.len, List.length_reverse, sizeLine_eq]
          have := (List.dropWhile_suffix (l := st) (sw f)).length_le
          omega
        cases ew : st.dropWhile (sw f) with
        | nil =>
          rw [ew] at iU
          cases iU
          refine ⟨.ref L, rfl, false, .inl ⟨_, SqL.of gL, rfl⟩, iteT ?_⟩
          refine iteT ?_
          refine ⟨.ref L, rfl, .inl ⟨rfl, _, SqL.of gL⟩, x, rfl, L, _, _, rfl, rfl, gL, usl, ?_⟩
          refine push gL (by rw [ew]; exact .nil) sm ?_
          unfold stp
          rw [ew]
        | cons g r =>
          rw [ew, List.reverse_cons] at iU
          obtain ⟨us0, v, rfl, iU0, isg⟩ := iU.unsnoc
          refine ⟨.ref L, rfl, true, .inl ⟨_, SqL.of gL, by simp⟩, iteF ?_⟩
          refine ⟨.ref L, rfl, 1, rfl, L, us0 ++ [v], -1, v, rfl, rfl, SqL.of gL, atI_last us0 v, x, rfl, v, x, g, f, rfl, isg, isf0.mono (same_tup sm), fl f fm, fun H2 s2 => ⟨_, rfl, ?_⟩⟩
          have gL2 := s2 _ _ gL
          have iU2 : IsFs K H2 (us0 ++ [v]) (st.dropWhile (sw f)).reverse := by
            rw [ew, List.reverse_cons]
            exact (iU0.snoc isg).mono (same_tup s2)
          refine ite2 (fun e => ?_) (fun e => ?_)
          · have e' : sw g f = false := by simpa using e
            refine ⟨.ref L, rfl, .inl ⟨rfl, _, SqL.of gL2⟩, x, rfl, L, _, _, rfl, rfl, gL2, usl, ?_⟩
            refine push gL2 iU2 (sm.trans s2) ?_
            unfold stp
            rw [ew]
            show (if sw g f = true then _ else _) = _
            rw [if_neg (by rw [e']; simp)]
          · have e' : sw g f = true := by simpa using e
            have est' : stp st f = st.dropWhile (sw f) := by
              unfold stp
              rw [ew]
              show (if sw g f = true then _ else _) = _
              rw [if_pos e']
            refine ⟨us0 ++ [v], stp st f, _, rfl, gL2, ?_, tk.symm, by omega, smem, sm.trans s2⟩
            rw [est']
            exact iU2
    · rintro σ G ⟨us, st, y2, rfl, gL, iU, est, stl, stm, sm⟩
      refine ⟨.ref L, rfl, L, us, rfl, .inl ⟨SqL.of gL, fun p hp => ?_⟩⟩
      have sp := same_upd (o := .tup us) hp
      refine k _ _ (sm.trans sp) ⟨p, us, rfl, SqT.of upd_same, ?_⟩
      have e : red fs = st.reverse := by
        unfold red
        rw [est, xl, List.take_length]
      rw [e]
      exact iU.mono (same_tup sp)
end
end DW
/-! format_factor, format_product, is_inside, size_of_product, by_written_form -/
namespace DW
open PySem PySem.Spec PyProof.Rows L2 TL
set_option autoImplicit false
theorem tl_app2 (x y : Str) : tl (x ++ y) = tl x ++ tl y := Array.toList_append
/-! ### written forms -/
def fform (f : Fc) : Str := if f.1 = true then ("{" : Str) ++ f.2 ++ ("}*" : Str) else f.2 ++ ("?" : Str)
def pform (fs : List Fc) : Str := if fs = [] then "-" else Txt.join "" (fs.map fform)
def spFf (K : PySem.W.Frag) : Sp := fun vs H Q _ => ∃ (v : V) (f : Fc), vs = [v] ∧ IsF K H v f ∧ (ls f).length ≤ 1000 ∧ Q (.str (fform f)) H
def spFp (K : PySem.W.Frag) : Sp := fun vs H Q _ => ∃ (v : V) (fs : List Fc), vs = [v] ∧ IsP K H v fs ∧ (∀ f ∈ fs, (ls f).length ≤ 1000) ∧ fs.length ≤ 10000 ∧ ∀ H', Same H H' → Q (.str (pform fs)) H'
theorem fform_len {f : Fc} (h : (ls f).length ≤ 1000) : (fform f).length ≤ 1003 := by
  have e : ∀ y : Str, y.length = (tl y).length := fun y => (Array.length_toList).symm
  have h' : (tl f.2).length ≤ 1000 := h
  unfold fform
  split
  · rw [e, tl_app2, tl_app2, List.length_append, List.length_append]
    have e1 : (tl "{").length = 1 := by decide +kernel
    have e2 : (tl "}*").length = 2 := by decide +kernel
    omega
  · rw [e, tl_app2, List.length_append]
    have e2 : (tl "?").length = 1 := by decide +kernel
    omega
section
variable {P : Program} {w : World} {K : PySem.W.Frag} {mg : Str → Option Value} {base : Heap}
theorem scFf : FnScope ["factor", "kind", "letters"] ["factor"] (defScope sFormatFactor) := ⟨rfl, rfl, rfl, by decide +kernel, rfl, by decide +kernel, by decide +kernel⟩
theorem ok_ff (D : Df K mg "format_factor" sFormatFactor ["factor"]) : FnOk P w K mg base CX0 1 D.f D.fd ["factor"] (spFf K) := by
  refine D.F.ok scFf (fun vs H Q E h => ?_) (fun cdv A outer s H vs Q E hr h => ?_)
  · obtain ⟨v, f, rfl, _⟩ := h
    rfl
  · obtain ⟨v, f, rfl, ⟨a, rfl, ha⟩, fl, k⟩ := h
    have sz : ∀ y : Str, y.length = (tl y).length := fun y => (Array.length_toList).symm
    have fl' : (tl f.2).length ≤ 1000 := fl
    refine ⟨_, (pss_cons (ps_asg (pv 0) (pg_tup rfl (pgs_cons (pg_name (i := 1) scFf.nd rfl (.inl rfl)) (pgs_cons (pg_name (i := 2) scFf.nd rfl (.inl rfl)) pgs_nil)))) (pss_cons (ps_if (pt_cmpR op_eq (pv 1) pe_str (nomark _)) (pss_one (ps_ret (pe_op op_add_str (pv 2) pe_str))) pss_nil) (pss_one (ps_ret (pe_op op_add_str (pe_op op_add_str pe_str (pv 2)) pe_str))))), ?_⟩
    refine ⟨.ref a, rfl, a, _, rfl, ha, rfl, _, _, rfl, _, _, rfl, rfl, ?_⟩
    refine ⟨_, rfl, rfl, _, rfl, ?_⟩
    rw [kd_opt]
    unfold fform at k
    have l1 : ("?" : Str).length = 1 := by decide +kernel
    have l2 : ("{" : Str).length = 1 := by decide +kernel
    have l3 : ("}*" : Str).length = 2 := by decide +kernel
    cases q : f.1 with
    | false =>
      rw [q, if_neg (by simp)] at k
      exact iteT ⟨_, rfl, f.2, "?", rfl, rfl, by rw [l1, sz, sizeLine_eq]; omega, k⟩
    | true =>
      rw [q, if_pos rfl] at k
      refine iteF ⟨_, rfl, "{", f.2, rfl, rfl, by rw [l2, sz, sizeLine_eq]; omega, ("{" : Str) ++ f.2, "}*", rfl, rfl, ?_, k⟩
      rw [l3, sz, tl_app2, List.length_append, sizeLine_eq]
      have : (tl "{").length = 1 := by decide +kernel
      omega
theorem scFp : FnScope ["product", "factor"] ["product"] (defScope sFormatProduct) := ⟨rfl, rfl, rfl, by decide +kernel, rfl, by decide +kernel, by decide +kernel⟩
theorem ok_fp (D : Df K mg "format_product" sFormatProduct ["product"]) (Df0 : Df K mg "format_factor" sFormatFactor ["factor"]) (ml : mg "len" = none) (me0 : ∃ t, mg "EMPTY_FORM" = some (.str "-" t)) : FnOk P w K mg base CX0 2 D.f D.fd ["product"] (spFp K) := by
  have Gf : FnOk P w K mg base CX0 1 Df0.f Df0.fd ["factor"] (spFf K) := ok_ff Df0
  have me : ∃ u, mg "EMPTY_FORM" = some u ∧ RelV (.str "-") u := by
    obtain ⟨t, e⟩ := me0
    exact ⟨_, e, t, rfl⟩
  refine D.F.ok scFp (fun vs H Q E h => ?_) (fun cdv A outer s H vs Q E hr h => ?_)
  · obtain ⟨v, fs, rfl, _⟩ := h
    rfl
  · obtain ⟨v, fs, rfl, ⟨a, xs, rfl, ha, iF⟩, fl, l1, k⟩ := h
    have xl := iF.len
    refine ⟨_, (pss_cons (ps_if (pt_cmpR op_eq (pe_callB call_len_seq (by rfl) ml PySem.boot_len (pa_cons (pv 0) pa_nil)) pe_int (nomark _)) (pss_one (ps_ret (C8.pe_gc (by rfl) me))) pss_nil) (pss_one (ps_ret (pe_join pe_str (pe_lc (own := [("factor", 1)]) (g := gName 1) rfl scFp.nd (pi_tup (pv 0)) (blkOk_by (N := ["product", "factor"]) (sc := defScope sFormatProduct) (by decide +kernel)) (fun _ _ _ _ _ => pg_name (i := 1) scFp.nd rfl (Or.inl rfl)) (fun _ _ _ _ _ => pts_nil) (fun _ _ _ _ _ => (pe_call Gf hr (by rfl) Df0.g Df0.F.kp Df0.b .nil pass0 (pa_cons (pv 1) pa_nil)))))))), ?_⟩
    refine ⟨.ref a, rfl, a, xs, rfl, .inr ha, rfl, _, rfl, ?_⟩
    refine ite2 (fun e => ?_) (fun e => ?_)
    · have e' : fs = [] := by
        have := V.int.inj (of_decide_eq_true e)
        exact List.length_eq_zero_iff.mp (by omega)
      have q := k _ (Same.refl _)
      unfold pform at q
      rw [if_pos e'] at q
      exact q
    · have ne : fs ≠ [] := fun z => e (decide_eq_true (by rw [xl, z]; rfl))
      refine ⟨⟨_, rfl⟩, .ref a, rfl, a, rfl, ⟨_, ha⟩, fun L hL => ?_⟩
      have sL := same_upd (o := .lst []) hL
      refine lc_it (walk_tup (xs := xs)) (fun i H' => H' L = some (.lst (((fs.take i).map fform).map V.str)) ∧ Same H H') ⟨upd_same, sL⟩ (fun _ _ _ ⟨_, sm⟩ => same_tup sm _ _ ha) ?_ ?_
      · rintro i x G G' hi ⟨gL, sm⟩ ⟨rfl, hx⟩
        obtain ⟨f, hf, isf⟩ := iF.get i x hx
        refine ⟨rfl, yes ?_⟩
        refine ⟨x, rfl, x, f, rfl, isf.mono (same_tup sm), fl f (List.mem_of_getElem? hf), ?_⟩
        refine ⟨_, gL, ?_, ?_, fun b o e => (upd_ne (ne_of_none e hL)).trans (sm _ _ e)⟩
        · rw [List.length_map, List.length_map, List.length_take, sizeLine_eq]
          omega
        · rw [upd_same, List.take_add_one, hf, List.map_append, List.map_append]
          rfl
      · rintro G ⟨gL, sm⟩
        rw [xl, List.take_length] at gL
        refine ⟨"", L, fs.map fform, rfl, rfl, .inl (SqL.of gL), ?_, ?_⟩
        · have bound : ∀ gs : List Fc, (∀ f ∈ gs, (ls f).length ≤ 1000) → (((gs.map fform).map (·.length)).sum ≤ 1003 * gs.length) := by
            intro gs
            induction gs with
            | nil => intro _; exact Nat.le_refl _
            | cons g gs ih =>
              intro hg
              have h1 := fform_len (hg g List.mem_cons_self)
              have h2 := ih fun f hf => hg f (List.mem_cons_of_mem _ hf)
              simp only [List.map_cons, List.sum_cons, List.length_cons]
              omega
          have := bound fs fl
          have e0 : ("" : Str).length = 0 := rfl
          rw [e0, Nat.mul_zero]
          omega
        · have q := k _ sm
          unfold pform at q
          rw [if_neg ne] at q
          exact q
/-! ### is_inside -/
inductive IsL (K : PySem.W.Frag) (H : Hp) : List V → List (List Fc) → Prop where
  | nil : IsL K H [] []
  | cons {v : V} {f : List Fc} {vs : List V} {fs : List (List Fc)} (h : IsP K H v f) (r : IsL K H vs fs) : IsL K H (v :: vs) (f :: fs)
theorem IsL.mono {H H' : Hp} (m : ∀ b xs, SqT K H b xs → SqT K H' b xs) : ∀ {vs : List V} {fs : List (List Fc)}, IsL K H vs fs → IsL K H' vs fs
  | _, _, .nil => .nil
  | _, _, .cons a r => .cons (a.mono m) (r.mono m)
theorem IsL.len {H : Hp} : ∀ {vs : List V} {fs : List (List Fc)}, IsL K H vs fs → vs.length = fs.length
  | _, _, .nil => rfl
  | _, _, .cons _ r => by rw [List.length_cons, List.length_cons, r.len]
theorem IsL.get {H : Hp} : ∀ {vs : List V} {fs : List (List Fc)}, IsL K H vs fs → ∀ (i : Nat) (v : V), vs[i]? = some v → ∃ f, fs[i]? = some f ∧ IsP K H v f
  | _, _, .nil, i, v, h => by simp at h
  | _, _, .cons a r, 0, v, h => by
    have e := Option.some.inj h
    subst e
    exact ⟨_, rfl, a⟩
  | _, _, .cons a r, i + 1, v, h => r.get i v h
theorem IsL.app {H : Hp} : ∀ {vs us : List V} {fs gs : List (List Fc)}, IsL K H vs fs → IsL K H us gs → IsL K H (vs ++ us) (fs ++ gs)
  | _, _, _, _, .nil, h => h
  | _, _, _, _, .cons a r, h => .cons a (r.app h)
def spIn (K : PySem.W.Frag) : Sp := fun vs H Q _ => ∃ (v : V) (a : Addr) (p : List Fc) (xs : List V) (qs : List (List Fc)), vs = [v, .ref a] ∧ IsP K H v p ∧ SqL K H a xs ∧ IsL K H xs qs ∧ (∀ f ∈ p, Low f) ∧ (∀ q ∈ qs, ∀ g ∈ q, Low g) ∧ ∀ H', Same H H' → Q (.bl (qs.any fun q => inc q p)) H'
theorem same_lst {H H' : Hp} {a : Addr} {xs : List V} (s : Same H H') (h : SqL K H a xs) : SqL K H' a xs := by
  rcases h with (h | ⟨o, h⟩) | h
  · exact .inl (.inl (s _ _ h))
  · exact .inl (.inr ⟨o, s _ _ h⟩)
  · exact .inr h
theorem scIn : FnScope ["product", "products", "other"] ["product", "products"] (defScope sIsInside) := ⟨rfl, rfl, rfl, by decide +kernel, rfl, by decide +kernel, by decide +kernel⟩
theorem ok_in (D : Df K mg "is_inside" sIsInside ["product", "products"]) (Di : DfIncl K mg) (ma : mg "all" = none) (ml : mg "len" = none) : FnOk P w K mg base CX0 5 D.f D.fd ["product", "products"] (spIn K) := by
  have Gi : FnOk P w K mg base CX0 4 Di.i.f Di.i.fd ["product", "other"] (spIncl K) := ok_incl Di ma ml
  refine D.F.ok scIn (fun vs H Q E h => ?_) (fun cdv A outer s H vs Q E hr h => ?_)
  · obtain ⟨v, a, p, xs, qs, rfl, _⟩ := h
    rfl
  · obtain ⟨v, a, p, xs, qs, rfl, isp, ha, iL, lp, lq, k⟩ := h
    have xl := iL.len
    refine ⟨_, PSs.nox (pss_cons (ps_for PassesOwn.never rfl (pi_list (pv 1)) (pg_name (i := 2) scIn.nd rfl (.inl rfl)) (pss_one (ps_if (pt_val (pe_call Gi hr (by rfl) Di.i.g Di.i.F.kp Di.i.b .nil pass0 (pa_cons (pv 0) (pa_cons (pv 2) pa_nil)))) (pss_one (ps_ret pe_bl)) pss_nil))) (pss_one (ps_ret pe_bl))), ?_⟩
    refine ⟨.ref a, rfl, a, rfl, ⟨xs, ha⟩, for_it (walk_list (xs := xs)) (fun i σ H' => ∃ y2 : Option V, σ = [some v, some (.ref a), y2] ∧ Same H H' ∧ ((qs.take i).any fun q => inc q p) = false) ⟨_, rfl, Same.refl _, rfl⟩ (fun _ _ _ _ ⟨_, _, sm, _⟩ => same_lst sm ha) ?_ ?_⟩
    · rintro i x σ G G' hi ⟨y2, rfl, sm, no⟩ ⟨rfl, hx⟩
      obtain ⟨q, hq, isq⟩ := iL.get i x hx
      have qm : q ∈ qs := List.mem_of_getElem? hq
      refine ⟨v, rfl, x, rfl, v, x, p, q, rfl, isp.mono (same_tup sm), isq.mono (same_tup sm), lp, lq q qm, fun H2 s2 => ⟨_, rfl, ite2 (fun e => ?_) (fun e => ?_)⟩⟩
      · have e2 : (qs.any fun q => inc q p) = true := List.any_eq_true.mpr ⟨q, qm, e⟩
        show Q (.bl true) _
        rw [← e2]
        exact k _ (sm.trans s2)
      · refine ⟨_, rfl, sm.trans s2, ?_⟩
        rw [List.take_add_one, hq, List.any_append, no]
        simpa using e
    · rintro σ G ⟨y2, rfl, sm, no⟩
      rw [xl, List.take_length] at no
      show Q (.bl false) _
      rw [← no]
      exact k _ sm
/-! ### by_written_form -/
theorem scBw : FnScope ["products"] ["products"] (defScope sByWrittenForm) := ⟨rfl, rfl, rfl, by decide +kernel, rfl, by decide +kernel, by decide +kernel⟩
/-- what a value's product is written as -/
def spBw (K : PySem.W.Frag) : Sp := fun vs H Q _ => ∃ (a : Addr) (xs : List V) (qs : List (List Fc)), vs = [.ref a] ∧ SqL K H a xs ∧ IsL K H xs qs ∧ (∀ q ∈ qs, (∀ f ∈ q, (ls f).length ≤ 1000) ∧ q.length ≤ 10000) ∧
  ∀ H' p ys zs, Same H H' → H p = none → H' p = some (.lst ys) → IsL K H' ys zs → zs = qs.mergeSort (fun x y => decide (tl (pform x) ≤ tl (pform y))) → Q (.ref p) H'
/-- lists that belong together stay so when both are sorted -/
theorem IsL.sorted {H : Hp} {g : V → Str} {xs : List V} {qs : List (List Fc)} (h : IsL K H xs qs) (hg : ∀ (i : Nat) (v : V) (q : List Fc), xs[i]? = some v → qs[i]? = some q → g v = pform q) : IsL K H (xs.mergeSort (SK.leG g)) (qs.mergeSort fun x y => decide (tl (pform x) ≤ tl (pform y))) := by
  have xl := h.len
  let zs := xs.zip qs
  have e1 : zs.map Prod.fst = xs := List.map_fst_zip (by omega)
  have e2 : zs.map Prod.snd = qs := List.map_snd_zip (by omega)
  have mem : ∀ z ∈ zs, IsP K H z.1 z.2 ∧ g z.1 = pform z.2 := by
    intro z hz
    obtain ⟨i, hi⟩ := List.getElem?_of_mem hz
    obtain ⟨h1, h2⟩ := List.getElem?_zip_eq_some.mp hi
    obtain ⟨f, hf, isf⟩ := h.get i _ h1
    rw [h2] at hf
    cases hf
    exact ⟨isf, hg i _ _ h1 h2⟩
  let le : V × List Fc → V × List Fc → Bool := fun x y => decide (tl (pform x.2) ≤ tl (pform y.2))
  have m1 : (zs.mergeSort le).map Prod.fst = xs.mergeSort (SK.leG g) := by
    rw [List.map_mergeSort (r := le) (s := SK.leG g) (f := Prod.fst) (fun a ha b hb => ?_), e1]
    unfold SK.leG
    rw [PySem.W.dataLe_str]
    show decide (tl (pform a.2) ≤ tl (pform b.2)) = decide (tl (g a.1) ≤ tl (g b.1))
    rw [(mem a ha).2, (mem b hb).2]
  have m2 : (zs.mergeSort le).map Prod.snd = qs.mergeSort fun x y => decide (tl (pform x) ≤ tl (pform y)) := by
    rw [List.map_mergeSort (r := le) (s := fun x y => decide (tl (pform x) ≤ tl (pform y))) (f := Prod.snd) (fun a ha b hb => rfl), e2]
  rw [← m1, ← m2]
  have all : ∀ l : List (V × List Fc), (∀ z ∈ l, IsP K H z.1 z.2) → IsL K H (l.map Prod.fst) (l.map Prod.snd) := by
    intro l
    induction l with
    | nil => intro _; exact .nil
    | cons z l ih => exact fun hl => .cons (hl z List.mem_cons_self) (ih fun y hy => hl y (List.mem_cons_of_mem _ hy))
  exact all _ fun z hz => (mem z ((List.mergeSort_perm zs le).mem_iff.mp hz)).1
open Classical in
theorem form_of {H : Hp} {xs : List V} {qs : List (List Fc)} (h : IsL K H xs qs) (inj : ∀ (v : V) (p q : List Fc), IsP K H v p → IsP K H v q → p = q) : ∃ g : V → Str, ∀ (i : Nat) (v : V) (q : List Fc), xs[i]? = some v → qs[i]? = some q → g v = pform q := by
  refine ⟨fun v => if c : ∃ q, IsP K H v q then pform c.choose else "", fun i v q hv hq => ?_⟩
  obtain ⟨f, hf, isf⟩ := h.get i v hv
  rw [hq] at hf
  cases hf
  have c : ∃ q, IsP K H v q := ⟨q, isf⟩
  show (if c : ∃ q, IsP K H v q then pform c.choose else "") = pform q
  rw [dif_pos c, inj v _ _ c.choose_spec isf]
end
end DW
/-! by_written_form, size_of_product -/
namespace DW
open PySem PySem.Spec PyProof.Rows L2 TL
set_option autoImplicit false
theorem isF_inj {K : PySem.W.Frag} {H : Hp} (ti : SK.TInj K H) {v : V} {f g : Fc} (a : IsF K H v f) (b : IsF K H v g) : f = g := by
  obtain ⟨x, rfl, hx⟩ := a
  obtain ⟨y, e, hy⟩ := b
  cases e
  have e := ti _ _ _ hx hy
  injection e with e1 e2
  injection e2 with e2 _
  have k1 := kd_inj (V.str.inj e1)
  have k2 := V.str.inj e2
  obtain ⟨f1, f2⟩ := f
  obtain ⟨g1, g2⟩ := g
  simp only at k1 k2
  rw [k1, k2]
theorem isFs_inj {K : PySem.W.Frag} {H : Hp} (ti : SK.TInj K H) : ∀ {vs : List V} {fs gs : List Fc}, IsFs K H vs fs → IsFs K H vs gs → fs = gs
  | _, _, _, .nil, h => by cases h; rfl
  | _, _, _, .cons a r, h => by
    cases h with
    | cons b q => rw [isF_inj ti a b, isFs_inj ti r q]
theorem isP_inj {K : PySem.W.Frag} {H : Hp} (ti : SK.TInj K H) (v : V) (p q : List Fc) (a : IsP K H v p) (b : IsP K H v q) : p = q := by
  obtain ⟨x, xs, rfl, hx, iF⟩ := a
  obtain ⟨y, ys, e, hy, iG⟩ := b
  cases e
  have e := ti _ _ _ hx hy
  subst e
  exact isFs_inj ti iF iG
section
variable {P : Program} {w : World} {K : PySem.W.Frag} {mg : Str → Option Value} {base : Heap}
structure DfBw (K : PySem.W.Frag) (mg : Str → Option Value) where
  b : Df K mg "by_written_form" sByWrittenForm ["products"]
  p : Df K mg "format_product" sFormatProduct ["product"]
  f : Df K mg "format_factor" sFormatFactor ["factor"]
  ml : mg "len" = none
  me : ∃ t, mg "EMPTY_FORM" = some (.str "-" t)
  ms : mg "sorted" = none
theorem ok_bw (D : DfBw K mg) : FnOk P w K mg base CX0 5 D.b.f D.b.fd ["products"] (spBw K) := by
  have Gp : FnOk P w K mg base CX0 2 D.p.f D.p.fd ["product"] (spFp K) := ok_fp D.p D.f D.ml D.me
  refine D.b.F.ok scBw (fun vs H Q E h => ?_) (fun cdv A outer s H vs Q E hr h => ?_)
  · obtain ⟨a, xs, qs, rfl, _⟩ := h
    rfl
  · obtain ⟨a, xs, qs, rfl, ha, iL, lq, k⟩ := h
    refine ⟨_, pss_one (ps_ret (SK.pe_sortedFn Gp hr D.p.b (by rfl) D.ms (by rfl) D.p.g (pa_cons (pv 0) pa_nil))), ?_⟩
    refine ⟨.ref a, rfl, fun ti => ?_⟩
    obtain ⟨g, hg⟩ := form_of iL (isP_inj ti)
    refine ⟨a, xs, g, rfl, ha, fun x hx H' sm => ?_, fun H2 p sm hn hp => ?_⟩
    · obtain ⟨i, hi⟩ := List.getElem?_of_mem hx
      obtain ⟨q, hq, isq⟩ := iL.get i x hi
      obtain ⟨l1, l2⟩ := lq q (List.mem_of_getElem? hq)
      exact ⟨x, q, rfl, isq.mono (same_tup sm), l1, l2, fun H2 s2 => ⟨by rw [hg i x q hi hq], s2⟩⟩
    · exact k H2 p _ _ sm hn hp ((iL.mono (same_tup sm)).sorted hg) rfl
/-! ### size_of_product -/
def szs (fs : List Fc) : List Int := fs.map fun f => if f.1 = true then ((ls f).length : Int) else 0
def sizeT (fs : List Fc) : List Int := [((szs fs).count 3 : Nat), ((szs fs).count 2 : Nat), ((szs fs).count 1 : Nat), ((szs fs).count 0 : Nat)]
def spSz (K : PySem.W.Frag) : Sp := fun vs H Q _ => ∃ (v : V) (fs : List Fc), vs = [v] ∧ IsP K H v fs ∧ (∀ f ∈ fs, (ls f).length ≤ 1000) ∧ fs.length ≤ 10000 ∧ ∀ H' p, Same H H' → H p = none → H' p = some (.tup ((sizeT fs).map V.int)) → Q (.ref p) H'
theorem scSz : FnScope ["product", "sizes", "kind", "letters", "size"] ["product"] (defScope sSizeOfProduct) := ⟨rfl, rfl, rfl, by decide +kernel, rfl, by decide +kernel, by decide +kernel⟩
theorem ok_sz (D : Df K mg "size_of_product" sSizeOfProduct ["product"]) (ml : mg "len" = none) (mt : mg "tuple" = none) (mr : mg "reversed" = none) (mg0 : mg "range" = none) (mm0 : ∃ t, mg "MOST_LETTERS" = some (.int 3 t)) : FnOk P w K mg base CX0 1 D.f D.fd ["product"] (spSz K) := by
  have mm : ∃ u, mg "MOST_LETTERS" = some u ∧ RelV (.int 3) u := by
    obtain ⟨t, e⟩ := mm0
    exact ⟨_, e, t, rfl⟩
  refine D.F.ok scSz (fun vs H Q E h => ?_) (fun cdv A outer s H vs Q E hr h => ?_)
  · obtain ⟨v, fs, rfl, _⟩ := h
    rfl
  · obtain ⟨v, fs, rfl, ⟨a, xs, rfl, ha, iF⟩, fl, l1, k⟩ := h
    have xl := iF.len
    have sz : ∀ y : Str, y.length = (tl y).length := fun y => (Array.length_toList).symm
    refine ⟨_, (pss_cons (ps_set (i := 1) scSz.nd rfl (.inr rfl) (pe_lc (own := [("kind", 2), ("letters", 3)]) (g := gTup K 2 (gCons (gName 2) (gCons (gName 3) gNil))) rfl scSz.nd (pi_tup (pv 0)) (blkOk_by (N := ["product", "sizes", "kind", "letters", "size"]) (sc := defScope sSizeOfProduct) (by decide +kernel)) (fun _ _ _ _ _ => (pg_tup rfl (pgs_cons (pg_name (i := 2) scSz.nd rfl (.inl rfl)) (pgs_cons (pg_name (i := 3) scSz.nd rfl (.inl rfl)) pgs_nil)))) (fun _ _ _ _ _ => pts_nil) (fun _ _ _ _ _ => (pe_ifExp (pt_cmpR op_eq (pv 2) pe_str (nomark _)) (pe_callB call_len_str (by rfl) ml PySem.boot_len (pa_cons (pv 3) pa_nil)) pe_int)))) (pss_one (ps_ret (pe_callTy call_tuple_of (by rfl) mt (by decide +kernel) (pa_cons (pe_lc (te := tBM K "list" (rCntI K) (tVar 1) (tCons (tVar 4) tNil)) (own := [("size", 4)]) (g := gName 4) rfl scSz.nd (pi_revR (by rfl) mr (prg_1 (by rfl) mg0 (pe_op op_add (C8.pe_gc (by rfl) mm) pe_int))) (blkOk_by (N := ["product", "sizes", "kind", "letters", "size"]) (sc := defScope sSizeOfProduct) (by decide +kernel)) (fun _ _ _ _ _ => pg_name (i := 4) scSz.nd rfl (Or.inl rfl)) (fun _ _ _ _ _ => pts_nil) (fun _ _ _ _ _ => (pe_bm PySem.F.plainAttrs_list PySem.F.slot_list_count PySem.F.type_list_count mt_lcount (pv 1) (pa_cons (pv 4) pa_nil)))) pa_nil))))), ?_⟩
    refine ⟨.ref a, rfl, a, rfl, ⟨xs, ha⟩, fun L hL => ?_⟩
    have sL := same_upd (o := .lst []) hL
    refine lc_it (walk_tup (xs := xs)) (fun i H' => H' L = some (.lst ((szs (fs.take i)).map V.int)) ∧ Same H H') ⟨upd_same, sL⟩ (fun _ _ _ ⟨_, sm⟩ => same_tup sm _ _ ha) ?_ ?_
    · rintro i x G G' hi ⟨gL, sm⟩ ⟨rfl, hx⟩
      obtain ⟨f, hf, b, rfl, hb⟩ := iF.get i x hx
      have f1 : (tl f.2).length ≤ 1000 := fl f (List.mem_of_getElem? hf)
      refine ⟨b, _, rfl, same_tup sm _ _ hb, rfl, _, _, rfl, _, _, rfl, rfl, rfl, yes ?_⟩
      have tk : szs (fs.take (i + 1)) = szs (fs.take i) ++ [if f.1 = true then ((ls f).length : Int) else 0] := by
        unfold szs
        rw [List.take_add_one, hf, List.map_append]
        rfl
      have size1 : ((szs (fs.take i)).map V.int).length < sizeLine := by
        unfold szs
        rw [List.length_map, List.length_map, List.length_take, sizeLine_eq]
        omega
      refine ⟨_, rfl, rfl, _, rfl, ?_⟩
      rw [kd_star]
      cases q : f.1 with
      | true =>
        refine iteT ⟨_, rfl, f.2, rfl, by rw [sz, sizeLine_eq]; omega, _, gL, size1, ?_, fun b o e => (upd_ne (ne_of_none e hL)).trans (sm _ _ e)⟩
        rw [upd_same, tk, q, if_pos rfl, List.map_append, sz]
        rfl
      | false =>
        refine iteF ⟨_, gL, size1, ?_, fun b o e => (upd_ne (ne_of_none e hL)).trans (sm _ _ e)⟩
        rw [upd_same, tk, q, if_neg (by simp), List.map_append]
        rfl
    · rintro G ⟨gL, sm⟩
      rw [xl, List.take_length] at gL
      refine ⟨3, 1, rfl, rfl, 4, rfl, by decide, by decide, by decide, by decide, fun M hM => ?_⟩
      have sM := same_upd (o := .lst []) hM
      have gLM := sM _ _ gL
      have c4 : ∀ (i : Nat), i < 4 → ((((szs fs).count ((3 : Int) + (i : Nat) * (-1)) : Nat) : Int)) = ((sizeT fs)[i]?).getD 0 := by
        intro i hi
        match i, hi with
        | 0, _ => rfl
        | 1, _ => rfl
        | 2, _ => rfl
        | 3, _ => rfl
      refine lc_it walk_rangeC (fun i H' => H' M = some (.lst (((sizeT fs).take i).map V.int)) ∧ H' L = some (.lst ((szs fs).map V.int)) ∧ Same H H') ⟨upd_same, gLM, sm.trans sM⟩ (fun _ _ _ _ => trivial) ?_ ?_
      · rintro i x G1 G2 hi ⟨gM, gL2, sm2⟩ ⟨rfl, rfl⟩
        have hi' : i < 4 := hi
        refine ⟨rfl, yes ?_⟩
        refine ⟨_, rfl, .inl ⟨rfl, _, SqL.of gL2⟩, _, rfl, L, szs fs, _, rfl, rfl, SqL.of gL2, _, gM, ?_, ?_, ?_, ?_⟩
        · rw [List.length_map, List.length_take, sizeLine_eq]
          omega
        · rw [upd_same]
          have e := c4 i hi'
          have e2 : (sizeT fs)[i]? = some (((sizeT fs)[i]?).getD 0) := by
            match i, hi' with
            | 0, _ => rfl
            | 1, _ => rfl
            | 2, _ => rfl
            | 3, _ => rfl
          rw [List.take_add_one, e2, List.map_append, ← e]
          rfl
        · rw [upd_ne (ne_of_none gL hM)]
          exact gL2
        · exact fun b o e => (upd_ne (ne_of_none (sm _ _ e) hM)).trans (sm2 _ _ e)
      · rintro G1 ⟨gM, gL2, sm2⟩
        refine ⟨M, _, rfl, .inl ⟨SqL.of gM, fun p hp => ?_⟩⟩
        have sp := same_upd (o := .tup (((sizeT fs).take 4).map V.int)) hp
        refine k _ p (sm2.trans sp) (sm2.free hp) upd_same
end
end DW
/-! maximal_products -/
namespace DW
open PySem PySem.Spec PyProof.Rows L2 TL
set_option autoImplicit false
open ND (Ent DO KOks NK NKs valN putN setN keyVs)
/-! ### keys -/
def facKey (f : Fc) : NestedKey := .tup [.text (kd f.1), .text f.2]
def prodKey (fs : List Fc) : NestedKey := .tup (fs.map facKey)
def numKey (ns : List Int) : NestedKey := .tup (ns.map NestedKey.num)
theorem facKey_inj {f g : Fc} (h : facKey f = facKey g) : f = g := by
  unfold facKey at h
  injection h with h
  injection h with h1 h2
  injection h1 with h1
  injection h2 with h2 _
  injection h2 with h2
  have k := kd_inj h1
  obtain ⟨a, b⟩ := f
  obtain ⟨c, d⟩ := g
  simp only at k h2
  rw [k, h2]
theorem prodKey_inj : ∀ {p q : List Fc}, prodKey p = prodKey q → p = q := by
  intro p q h
  unfold prodKey at h
  injection h with h
  exact (List.map_inj_right (f := facKey) fun a b e => facKey_inj e).mp h
theorem num_inj {a b : Int} (h : NestedKey.num a = NestedKey.num b) : a = b := by injection h
theorem numKey_inj {p q : List Int} (h : numKey p = numKey q) : p = q := by
  unfold numKey at h
  injection h with h
  exact (List.map_inj_right (f := NestedKey.num) fun a b e => num_inj e).mp h
theorem isF_nk {K : PySem.W.Frag} {H : Hp} {v : V} {f : Fc} (h : IsF K H v f) : NK K H (facKey f) v := by
  obtain ⟨a, rfl, q⟩ := h
  exact .tup q (.cons (.text _) (.cons (.text _) .nil))
theorem isFs_nk {K : PySem.W.Frag} {H : Hp} : ∀ {vs : List V} {fs : List Fc}, IsFs K H vs fs → NKs K H (fs.map facKey) vs
  | _, _, .nil => .nil
  | _, _, .cons a r => .cons (isF_nk a) (isFs_nk r)
theorem isP_nk {K : PySem.W.Frag} {H : Hp} {v : V} {fs : List Fc} (h : IsP K H v fs) : NK K H (prodKey fs) v := by
  obtain ⟨a, xs, rfl, q, r⟩ := h
  exact .tup q (isFs_nk r)
theorem nums_nk {K : PySem.W.Frag} {H : Hp} : ∀ ns : List Int, NKs K H (ns.map NestedKey.num) (ns.map V.int)
  | [] => .nil
  | n :: ns => .cons (.num n) (nums_nk ns)
theorem depth_fs : ∀ fs : List Fc, NestedKey.depthAll (fs.map facKey) ≤ 1
  | [] => by simp [NestedKey.depthAll]
  | f :: fs => by
    have := depth_fs fs
    simp only [List.map_cons, NestedKey.depthAll, facKey, NestedKey.depth]
    omega
theorem depth_prod (fs : List Fc) : (prodKey fs).depth ≤ 8 := by
  have := depth_fs fs
  simp only [prodKey, NestedKey.depth]
  omega
theorem depth_nums : ∀ ns : List Int, NestedKey.depthAll (ns.map NestedKey.num) = 0
  | [] => by simp [NestedKey.depthAll]
  | n :: ns => by
    have := depth_nums ns
    simp only [List.map_cons, NestedKey.depthAll, NestedKey.depth, this]
    rfl
theorem depth_num (ns : List Int) : (numKey ns).depth ≤ 8 := by
  simp only [numKey, NestedKey.depth, depth_nums]
  omega
/-! ### groups -/
abbrev Gp : Type := List Int × List (List Fc)
structure Grp (ps : List (List Fc)) (Gs : List Gp) : Prop where
  mem : ∀ r, (∃ g ∈ Gs, r ∈ g.2) ↔ ∃ p ∈ ps, r = red p
  key : ∀ g ∈ Gs, ∀ r ∈ g.2, sizeT r = g.1
  nd : ∀ g ∈ Gs, g.2.Nodup
  kn : (Gs.map (·.1)).Nodup
def addR (rs : List (List Fc)) (r : List Fc) : List (List Fc) := if r ∈ rs then rs else rs ++ [r]
theorem addR_mem {rs : List (List Fc)} {r x : List Fc} : x ∈ addR rs r ↔ x ∈ rs ∨ x = r := by
  unfold addR
  split
  · rename_i h
    exact ⟨.inl, fun z => z.elim id fun e => by rw [e]; exact h⟩
  · simp
theorem addR_nd {rs : List (List Fc)} {r : List Fc} (h : rs.Nodup) : (addR rs r).Nodup := by
  unfold addR
  split
  · exact h
  · rename_i n
    exact List.nodup_append.mpr ⟨h, by simp, fun a ha b hb e => n (by rw [List.mem_singleton.mp hb] at e; rw [← e]; exact ha)⟩
theorem grp_old {ps : List (List Fc)} {Gs : List Gp} {p : List Fc} {j : Nat} {g : Gp} (G : Grp ps Gs) (hj : Gs[j]? = some g) (hk : sizeT (red p) = g.1) : Grp (ps ++ [p]) (Gs.set j (g.1, addR g.2 (red p))) := by
  have jl := (List.getElem?_eq_some_iff.mp hj).1
  have gm : g ∈ Gs := List.mem_of_getElem? hj
  have mset : ∀ x ∈ Gs.set j (g.1, addR g.2 (red p)), x ∈ Gs ∨ x = (g.1, addR g.2 (red p)) := fun x hx => List.mem_or_eq_of_mem_set hx
  have mnew : (g.1, addR g.2 (red p)) ∈ Gs.set j (g.1, addR g.2 (red p)) := List.mem_set jl _
  refine ⟨fun r => ⟨?_, ?_⟩, fun x hx r hr => ?_, fun x hx => ?_, ?_⟩
  · rintro ⟨x, hx, hr⟩
    rcases mset x hx with e | e
    · obtain ⟨p', h1, h2⟩ := (G.mem r).mp ⟨x, e, hr⟩
      exact ⟨p', List.mem_append_left _ h1, h2⟩
    · rw [e] at hr
      rcases addR_mem.mp hr with q | q
      · obtain ⟨p', h1, h2⟩ := (G.mem r).mp ⟨g, gm, q⟩
        exact ⟨p', List.mem_append_left _ h1, h2⟩
      · exact ⟨p, by simp, q⟩
  · rintro ⟨p', h1, h2⟩
    rcases List.mem_append.mp h1 with q | q
    · obtain ⟨x, hx, hr⟩ := (G.mem r).mpr ⟨p', q, h2⟩
      obtain ⟨i, hi⟩ := List.getElem?_of_mem hx
      by_cases e : i = j
      · rw [e, hj] at hi
        cases hi
        exact ⟨_, mnew, addR_mem.mpr (.inl hr)⟩
      · refine ⟨x, List.mem_of_getElem? (i := i) ?_, hr⟩
        rw [List.getElem?_set_ne (Ne.symm e)]
        exact hi
    · rw [List.mem_singleton.mp q] at h2
      exact ⟨_, mnew, addR_mem.mpr (.inr h2)⟩
  · rcases mset x hx with e | e
    · exact G.key x e r hr
    · rw [e] at hr ⊢
      rcases addR_mem.mp hr with q | q
      · exact G.key g gm r q
      · rw [q]
        exact hk
  · rcases mset x hx with e | e
    · exact G.nd x e
    · rw [e]
      exact addR_nd (G.nd g gm)
  · have e : (Gs.set j (g.1, addR g.2 (red p))).map (·.1) = Gs.map (·.1) := by
      rw [List.map_set]
      refine List.ext_getElem? fun n => ?_
      by_cases q : j = n
      · rw [← q, List.getElem?_set_self (by rw [List.length_map]; exact jl), List.getElem?_map, hj]
        rfl
      · rw [List.getElem?_set_ne q]
    rw [e]
    exact G.kn
theorem grp_new {ps : List (List Fc)} {Gs : List Gp} {p : List Fc} (G : Grp ps Gs) (hk : ∀ g ∈ Gs, g.1 ≠ sizeT (red p)) : Grp (ps ++ [p]) (Gs ++ [(sizeT (red p), [red p])]) := by
  refine ⟨fun r => ⟨?_, ?_⟩, fun x hx r hr => ?_, fun x hx => ?_, ?_⟩
  · rintro ⟨x, hx, hr⟩
    rcases List.mem_append.mp hx with e | e
    · obtain ⟨p', h1, h2⟩ := (G.mem r).mp ⟨x, e, hr⟩
      exact ⟨p', List.mem_append_left _ h1, h2⟩
    · rw [List.mem_singleton.mp e] at hr
      exact ⟨p, by simp, List.mem_singleton.mp hr⟩
  · rintro ⟨p', h1, h2⟩
    rcases List.mem_append.mp h1 with q | q
    · obtain ⟨x, hx, hr⟩ := (G.mem r).mpr ⟨p', q, h2⟩
      exact ⟨x, List.mem_append_left _ hx, hr⟩
    · rw [List.mem_singleton.mp q] at h2
      exact ⟨(sizeT (red p), [red p]), by simp, by rw [h2]; simp⟩
  · rcases List.mem_append.mp hx with e | e
    · exact G.key x e r hr
    · rw [List.mem_singleton.mp e] at hr ⊢
      rw [List.mem_singleton.mp hr]
  · rcases List.mem_append.mp hx with e | e
    · exact G.nd x e
    · rw [List.mem_singleton.mp e]
      simp
  · rw [List.map_append]
    refine List.nodup_append.mpr ⟨G.kn, by simp, fun a ha b hb e => ?_⟩
    obtain ⟨g, hg, rfl⟩ := List.mem_map.mp ha
    rw [List.map_singleton] at hb
    rw [List.mem_singleton.mp hb] at e
    exact hk g hg e
/-- the products that are kept, group by group -/
def keepG (M : List (List Fc)) (g : Gp) : List (List Fc) := M ++ g.2.filter fun r => !(M.any fun m => inc m r)
def pickM (Gs : List Gp) : List (List Fc) := Gs.foldl keepG []
def leK (a b : Gp) : Bool := PySem.W.dataLe true (fun g : Gp => (numKey g.1).data) a b
/-! ### the dicts -/
structure RW (K : PySem.W.Frag) (H : Hp) (rows : List Ent) (rs : List (List Fc)) : Prop where
  keys : rows.map (·.1) = rs.map prodKey
  isp : ∀ (i : Nat) (e : Ent) (r : List Fc), rows[i]? = some e → rs[i]? = some r → IsP K H (.ref e.2.1) r
theorem RW.len {K : PySem.W.Frag} {H : Hp} {rows : List Ent} {rs : List (List Fc)} (h : RW K H rows rs) : rows.length = rs.length := by
  have e := congrArg List.length h.keys
  rw [List.length_map, List.length_map] at e
  exact e
theorem RW.mono {K : PySem.W.Frag} {H H' : Hp} {rows : List Ent} {rs : List (List Fc)} (m : ∀ b xs, SqT K H b xs → SqT K H' b xs) (h : RW K H rows rs) : RW K H' rows rs := ⟨h.keys, fun i e r h1 h2 => (h.isp i e r h1 h2).mono m⟩
theorem RW.key {K : PySem.W.Frag} {H : Hp} {rows : List Ent} {rs : List (List Fc)} (h : RW K H rows rs) {i : Nat} {e : Ent} (he : rows[i]? = some e) : ∃ r, rs[i]? = some r ∧ e.1 = prodKey r := by
  have il := (List.getElem?_eq_some_iff.mp he).1
  have hl := h.len
  refine ⟨rs[i], List.getElem?_eq_getElem (by omega), ?_⟩
  have k1 : (rows.map (·.1))[i]? = some e.1 := by rw [List.getElem?_map, he]; rfl
  rw [h.keys, List.getElem?_map, List.getElem?_eq_getElem (by omega)] at k1
  exact (Option.some.inj k1).symm
theorem RW.oks {K : PySem.W.Frag} {H : Hp} {rows : List Ent} {rs : List (List Fc)} (h : RW K H rows rs) : KOks K H rows := fun e he => by
  obtain ⟨i, hi⟩ := List.getElem?_of_mem he
  obtain ⟨r, hr, ek⟩ := h.key hi
  rw [ek]
  exact ⟨isP_nk (h.isp i e r hi hr), depth_prod r⟩
theorem valN_none {kvs : List Ent} {k : NestedKey} (h : valN kvs k = none) : ∀ e ∈ kvs, e.1 ≠ k := fun e he z => by
  unfold valN at h
  rw [Option.map_eq_none_iff, List.find?_eq_none] at h
  exact h e he (decide_eq_true z)
theorem valN_some {kvs : List Ent} {k : NestedKey} {v : V} (h : valN kvs k = some v) : ∃ (j : Nat) (e : Ent), kvs[j]? = some e ∧ e.1 = k ∧ v = e.2.2 := by
  unfold valN at h
  obtain ⟨e, he, rfl⟩ := Option.map_eq_some_iff.mp h
  obtain ⟨j, hj⟩ := List.getElem?_of_mem (List.mem_of_find?_eq_some he)
  have hp := List.find?_some (p := fun p : Ent => decide (p.1 = k)) he
  exact ⟨j, e, hj, of_decide_eq_true hp, rfl⟩
theorem valN_get {kvs : List Ent} (nd : (kvs.map (·.1)).Nodup) {j : Nat} {e : Ent} (h : kvs[j]? = some e) : valN kvs e.1 = some e.2.2 := by
  cases q : valN kvs e.1 with
  | none => exact absurd rfl (valN_none q e (List.mem_of_getElem? h))
  | some v =>
    obtain ⟨i, e', hi, ek, ev⟩ := valN_some q
    have k1 : (kvs.map (·.1))[i]? = some e.1 := by rw [List.getElem?_map, hi, ← ek]; rfl
    have k2 : (kvs.map (·.1))[j]? = some e.1 := by rw [List.getElem?_map, h]; rfl
    have ij : i = j := (List.getElem?_inj (List.getElem?_eq_some_iff.mp k1).1 nd).mp (k1.trans k2.symm)
    rw [ij, h] at hi
    cases hi
    rw [ev]
theorem RW.put {K : PySem.W.Frag} {H : Hp} {rows : List Ent} {rs : List (List Fc)} {r : List Fc} {b : Addr} (h : RW K H rows rs) (hb : IsP K H (.ref b) r) : RW K H (putN rows (prodKey r) b (.bl true)) (addR rs r) := by
  have hl := h.len
  unfold putN
  cases q : valN rows (prodKey r) with
  | none =>
    have nr : r ∉ rs := fun hr => by
      obtain ⟨i, hi⟩ := List.getElem?_of_mem hr
      have il := (List.getElem?_eq_some_iff.mp hi).1
      have he : rows[i]? = some (rows[i]'(by omega)) := List.getElem?_eq_getElem (by omega)
      obtain ⟨r', hr', ek⟩ := h.key he
      rw [hi] at hr'
      cases hr'
      exact valN_none q _ (List.mem_of_getElem? he) ek
    rw [if_neg (by simp)]
    unfold addR
    rw [if_neg nr]
    refine ⟨by rw [List.map_append, List.map_append, h.keys]; rfl, fun i e x h1 h2 => ?_⟩
    by_cases c : i < rows.length
    · rw [List.getElem?_append_left c] at h1
      rw [List.getElem?_append_left (by omega)] at h2
      exact h.isp i e x h1 h2
    · rw [List.getElem?_append_right (by omega)] at h1
      rw [List.getElem?_append_right (by omega), ← hl] at h2
      generalize i - rows.length = m at h1 h2
      match m, h1, h2 with
      | 0, h1, h2 =>
        cases h1
        cases h2
        exact hb
      | m + 1, h1, _ => simp at h1
  | some v =>
    obtain ⟨i, e, hi, ek, _⟩ := valN_some q
    obtain ⟨r', hr', ek'⟩ := h.key hi
    have rr : r = r' := prodKey_inj (ek.symm.trans ek')
    rw [if_pos (show (some v).isSome = true from rfl)]
    unfold addR
    rw [if_pos (by rw [rr]; exact List.mem_of_getElem? hr')]
    have fst : ∀ e : Ent, (setN (prodKey r) (.bl true) e).1 = e.1 ∧ (setN (prodKey r) (.bl true) e).2.1 = e.2.1 := fun e => by
      unfold setN
      split <;> exact ⟨rfl, rfl⟩
    refine ⟨?_, fun n x y h1 h2 => ?_⟩
    · rw [List.map_map, ← h.keys]
      exact List.map_congr_left fun e _ => (fst e).1
    · rw [List.getElem?_map] at h1
      obtain ⟨x0, hx0, rfl⟩ := Option.map_eq_some_iff.mp h1
      rw [(fst x0).2]
      exact h.isp n x0 y hx0 h2
theorem RW.isl {K : PySem.W.Frag} {H : Hp} : ∀ {rows : List Ent} {rs : List (List Fc)}, RW K H rows rs → IsL K H (keyVs rows) rs
  | [], [], _ => .nil
  | [], _ :: _, h => by have := h.len; cases this
  | _ :: _, [], h => by have := h.len; cases this
  | e :: rows, r :: rs, h => by
    refine .cons (h.isp 0 e r rfl rfl) (RW.isl ⟨?_, fun i x y h1 h2 => h.isp (i + 1) x y h1 h2⟩)
    have := h.keys
    rw [List.map_cons, List.map_cons] at this
    exact (List.cons.inj this).2
/-- the dict of groups -/
structure EG (P : Program) (w : World) (K : PySem.W.Frag) (H : Hp) (e : Ent) (g : Gp) : Prop where
  key : e.1 = numKey g.1
  tup : SqT K H e.2.1 (g.1.map V.int)
  dic : ∃ (Di : Addr) (rows : List Ent), e.2.2 = .ref Di ∧ H Di = some (DO P w Di rows) ∧ RW K H rows g.2
structure GD (P : Program) (w : World) (K : PySem.W.Frag) (H0 H : Hp) (D0 : Addr) (kvs : List Ent) (Gs : List Gp) : Prop where
  at0 : H D0 = some (DO P w D0 kvs)
  new0 : H0 D0 = none
  len : kvs.length = Gs.length
  eg : ∀ (i : Nat) (e : Ent) (g : Gp), kvs[i]? = some e → Gs[i]? = some g → EG P w K H e g
  dn : ∀ (i j : Nat) (e e' : Ent), kvs[i]? = some e → kvs[j]? = some e' → i ≠ j → e.2.2 ≠ e'.2.2
  nw : ∀ e ∈ kvs, ∃ Di, e.2.2 = .ref Di ∧ H0 Di = none ∧ Di ≠ D0
theorem GD.gp {P : Program} {w : World} {K : PySem.W.Frag} {H0 H : Hp} {D0 : Addr} {kvs : List Ent} {Gs : List Gp} (G : GD P w K H0 H D0 kvs Gs) {i : Nat} {e : Ent} (he : kvs[i]? = some e) : ∃ g, Gs[i]? = some g ∧ EG P w K H e g := by
  have il := (List.getElem?_eq_some_iff.mp he).1
  have hl := G.len
  have hg : Gs[i]? = some (Gs[i]'(by omega)) := List.getElem?_eq_getElem (by omega)
  exact ⟨_, hg, G.eg i e _ he hg⟩
theorem GD.oks {P : Program} {w : World} {K : PySem.W.Frag} {H0 H : Hp} {D0 : Addr} {kvs : List Ent} {Gs : List Gp} (G : GD P w K H0 H D0 kvs Gs) : KOks K H kvs := fun e he => by
  obtain ⟨i, hi⟩ := List.getElem?_of_mem he
  obtain ⟨g, _, q⟩ := G.gp hi
  rw [q.key]
  exact ⟨.tup q.tup (nums_nk _), depth_num _⟩
theorem GD.keys {P : Program} {w : World} {K : PySem.W.Frag} {H0 H : Hp} {D0 : Addr} {kvs : List Ent} {Gs : List Gp} (G : GD P w K H0 H D0 kvs Gs) : kvs.map (·.1) = Gs.map fun g => numKey g.1 := by
  refine List.ext_getElem? fun n => ?_
  rw [List.getElem?_map, List.getElem?_map]
  have hl := G.len
  by_cases c : n < kvs.length
  · have h1 : kvs[n]? = some kvs[n] := List.getElem?_eq_getElem c
    obtain ⟨g, hg, q⟩ := G.gp h1
    rw [h1, hg]
    exact congrArg some q.key
  · rw [List.getElem?_eq_none (by omega), List.getElem?_eq_none (by omega)]
    rfl
theorem GD.same {P : Program} {w : World} {K : PySem.W.Frag} {H0 H H' : Hp} {D0 : Addr} {kvs : List Ent} {Gs : List Gp} (G : GD P w K H0 H D0 kvs Gs) (s : Same H H') : GD P w K H0 H' D0 kvs Gs := by
  refine ⟨s _ _ G.at0, G.new0, G.len, fun i e g h1 h2 => ?_, G.dn, G.nw⟩
  obtain ⟨k, t, Di, rows, e1, e2, e3⟩ := G.eg i e g h1 h2
  exact ⟨k, same_tup s _ _ t, Di, rows, e1, s _ _ e2, e3.mono (same_tup s)⟩
/-- a store at a dict leaves the tuples -/
theorem upd_do {P : Program} {w : World} {K : PySem.W.Frag} {H : Hp} {D : Addr} {kvs : List Ent} {o : HO} (hD : H D = some (DO P w D kvs)) (b : Addr) (xs : List V) (h : SqT K H b xs) : SqT K (upd H D o) b xs := by
  rcases h with (h | ⟨u, h⟩) | h
  · exact .inl (.inl ((upd_ne (ne_of h hD (by intro z; cases z))).trans h))
  · exact .inl (.inr ⟨u, (upd_ne (ne_of h hD (by intro z; cases z))).trans h⟩)
  · exact .inr h
end DW
/-! maximal_products: the code -/
namespace DW
open PySem PySem.Spec PyProof.Rows L2 TL
set_option autoImplicit false
open ND (Ent DO KOks NK NKs valN putN setN keyVs)
theorem u9 {k : Nat} {A : Around} (hr : Room k A) : A.units + 9 < cLine := by
  have := hr.units
  omega
section
variable {P : Program} {w : World} {K : PySem.W.Frag} {H0 H : Hp} {D0 : Addr} {kvs : List Ent} {Gs : List Gp}
theorem gd_old (G : GD P w K H0 H D0 kvs Gs) {j : Nat} {e : Ent} {g : Gp} {Dj b : Addr} {rows : List Ent} {r : List Fc} (he : kvs[j]? = some e) (hg : Gs[j]? = some g) (ev : e.2.2 = .ref Dj) (hD : H Dj = some (DO P w Dj rows)) (rw' : RW K H rows g.2) (hb : IsP K H (.ref b) r) :
    GD P w K H0 (upd H Dj (DO P w Dj (putN rows (prodKey r) b (.bl true)))) D0 kvs (Gs.set j (g.1, addR g.2 r)) := by
  have nj : Dj ≠ D0 := by
    obtain ⟨Di, e1, _, e3⟩ := G.nw e (List.mem_of_getElem? he)
    rw [ev] at e1
    cases e1
    exact e3
  have m := fun b xs h => upd_do (K := K) (o := DO P w Dj (putN rows (prodKey r) b (.bl true))) hD b xs h
  have jl := (List.getElem?_eq_some_iff.mp hg).1
  refine ⟨(upd_ne nj.symm).trans G.at0, G.new0, by rw [List.length_set]; exact G.len, fun i e' g' h1 h2 => ?_, G.dn, G.nw⟩
  by_cases q : j = i
  · subst q
    rw [he] at h1
    cases h1
    rw [List.getElem?_set_self jl] at h2
    cases h2
    have E := G.eg j e g he hg
    exact ⟨E.key, upd_do hD _ _ E.tup, Dj, _, ev, upd_same, (rw'.put hb).mono (fun b xs h => upd_do hD b xs h)⟩
  · rw [List.getElem?_set_ne q] at h2
    obtain ⟨k, t, Di, rows', e1, e2, e3⟩ := G.eg i e' g' h1 h2
    have ne : Di ≠ Dj := fun z => G.dn j i e e' he h1 q (by rw [ev, e1, z])
    exact ⟨k, upd_do hD _ _ t, Di, rows', e1, (upd_ne ne).trans e2, e3.mono (fun b xs h => upd_do hD b xs h)⟩
theorem gd_new (G : GD P w K H0 H D0 kvs Gs) {De ka b : Addr} {r : List Fc} {ns : List Int} (hDe : H De = some (DO P w De [])) (n0 : H0 De = none) (ne0 : De ≠ D0) (nei : ∀ e ∈ kvs, e.2.2 ≠ .ref De) (hka : SqT K H ka (ns.map V.int)) (hb : IsP K H (.ref b) r) :
    GD P w K H0 (upd (upd H D0 (DO P w D0 (kvs ++ [(numKey ns, ka, .ref De)]))) De (DO P w De (putN [] (prodKey r) b (.bl true)))) D0 (kvs ++ [(numKey ns, ka, .ref De)]) (Gs ++ [(ns, [r])]) := by
  have hDe1 : (upd H D0 (DO P w D0 (kvs ++ [(numKey ns, ka, .ref De)]))) De = some (DO P w De []) := (upd_ne ne0).trans hDe
  have m : ∀ c xs, SqT K H c xs → SqT K (upd (upd H D0 (DO P w D0 (kvs ++ [(numKey ns, ka, .ref De)]))) De (DO P w De (putN [] (prodKey r) b (.bl true)))) c xs := fun c xs h => upd_do hDe1 c xs (upd_do G.at0 c xs h)
  have hl := G.len
  refine ⟨(upd_ne ne0.symm).trans upd_same, G.new0, by rw [List.length_append, List.length_append, hl]; rfl, fun i e g h1 h2 => ?_, fun i j e e' h1 h2 ne => ?_, fun e he => ?_⟩
  · by_cases c : i < kvs.length
    · rw [List.getElem?_append_left c] at h1
      rw [List.getElem?_append_left (by omega)] at h2
      obtain ⟨k, t, Di, rows', e1, e2, e3⟩ := G.eg i e g h1 h2
      have nd : Di ≠ De := fun z => nei e (List.mem_of_getElem? h1) (by rw [e1, z])
      have n0' : Di ≠ D0 := by
        obtain ⟨Dx, x1, _, x3⟩ := G.nw e (List.mem_of_getElem? h1)
        rw [e1] at x1
        cases x1
        exact x3
      exact ⟨k, m _ _ t, Di, rows', e1, (upd_ne nd).trans ((upd_ne n0').trans e2), e3.mono m⟩
    · rw [List.getElem?_append_right (by omega)] at h1
      rw [List.getElem?_append_right (by omega), ← hl] at h2
      generalize i - kvs.length = n at h1 h2
      match n, h1, h2 with
      | 0, h1, h2 =>
        cases h1
        cases h2
        have r0 : RW K H [] [] := ⟨rfl, fun i e r h _ => by simp at h⟩
        exact ⟨rfl, m _ _ hka, De, _, rfl, upd_same, (r0.put hb).mono m⟩
      | n + 1, h1, _ => simp at h1
  · have last : ∀ (i : Nat) (e : Ent), (kvs ++ [(numKey ns, ka, V.ref De)])[i]? = some e → ¬ i < kvs.length → i = kvs.length ∧ e = (numKey ns, ka, .ref De) := by
      intro i e h c
      rw [List.getElem?_append_right (by omega)] at h
      generalize q : i - kvs.length = n at h
      match n, h with
      | 0, h => exact ⟨by omega, (Option.some.inj h).symm⟩
      | n + 1, h => simp at h
    by_cases c : i < kvs.length
    · by_cases d : j < kvs.length
      · rw [List.getElem?_append_left c] at h1
        rw [List.getElem?_append_left d] at h2
        exact G.dn i j e e' h1 h2 ne
      · obtain ⟨_, rfl⟩ := last j e' h2 d
        rw [List.getElem?_append_left c] at h1
        exact nei e (List.mem_of_getElem? h1)
    · obtain ⟨q1, rfl⟩ := last i e h1 c
      by_cases d : j < kvs.length
      · rw [List.getElem?_append_left d] at h2
        exact fun z => nei e' (List.mem_of_getElem? h2) z.symm
      · obtain ⟨q2, _⟩ := last j e' h2 d
        exact absurd (q1.trans q2.symm) ne
  · rcases List.mem_append.mp he with q | q
    · exact G.nw e q
    · rw [List.mem_singleton.mp q]
      exact ⟨De, rfl, n0, ne0⟩
theorem datas_nums : ∀ ns : List Int, NestedKey.datas (ns.map NestedKey.num) = ns.map PyData.int
  | [] => by simp [NestedKey.datas]
  | n :: ns => by
    rw [List.map_cons, List.map_cons, NestedKey.datas, datas_nums ns, NestedKey.data]
theorem data_num (ns : List Int) : (numKey ns).data = .tuple (ns.map PyData.int) := by
  unfold numKey
  rw [NestedKey.data, datas_nums]
theorem depth_ints : ∀ ns : List Int, PyData.depthAll (ns.map PyData.int) = 0
  | [] => by simp [PyData.depthAll]
  | n :: ns => by
    rw [List.map_cons, PyData.depthAll, depth_ints ns, PyData.depth]
    rfl
theorem upd_frz {K : PySem.W.Frag} {H : Hp} {D : Addr} {od : Obj} {u o : HO} (hD : H D = some (.frz od u)) (nt : ∀ xs, u ≠ .tup xs) (b : Addr) (xs : List V) (h : SqT K H b xs) : SqT K (upd H D o) b xs := by
  rcases h with (h | ⟨v, h⟩) | h
  · exact .inl (.inl ((upd_ne (ne_of h hD (by intro z; cases z))).trans h))
  · exact .inl (.inr ⟨v, (upd_ne (ne_of h hD (by intro z; injection z with _ z; exact nt _ z.symm))).trans h⟩)
  · exact .inr h
theorem gd_zip (G : GD P w K H0 H D0 kvs Gs) : ∃ Zs : List (Ent × Gp), kvs.mergeSort (PySem.W.dataLe true fun p : Ent => p.1.data) = Zs.map (·.1) ∧ Gs.mergeSort leK = Zs.map (·.2) ∧ Zs.length = kvs.length ∧ ∀ z ∈ Zs, ∃ i : Nat, kvs[i]? = some z.1 ∧ Gs[i]? = some z.2 := by
  have hl := G.len
  have mz : ∀ z ∈ kvs.zip Gs, ∃ i : Nat, kvs[i]? = some z.1 ∧ Gs[i]? = some z.2 := fun z hz => by
    obtain ⟨i, hi⟩ := List.getElem?_of_mem hz
    exact ⟨i, List.getElem?_zip_eq_some.mp hi⟩
  have kz : ∀ z ∈ kvs.zip Gs, z.1.1 = numKey z.2.1 := fun z hz => by
    obtain ⟨i, h1, h2⟩ := mz z hz
    exact (G.eg i _ _ h1 h2).key
  refine ⟨(kvs.zip Gs).mergeSort (fun a b => leK a.2 b.2), ?_, ?_, ?_, fun z hz => mz z (List.mem_mergeSort.mp hz)⟩
  · rw [List.map_mergeSort (s := PySem.W.dataLe true fun p : Ent => p.1.data) (f := fun z : Ent × Gp => z.1) fun a ha b hb => ?_]
    · rw [List.map_fst_zip (by omega)]
    · show PySem.W.dataLe true (fun g : Gp => (numKey g.1).data) a.2 b.2 = PySem.W.dataLe true (fun p : Ent => p.1.data) a.1 b.1
      rw [PySem.W.dataLe_eq, PySem.W.dataLe_eq]
      simp only [cond_true]
      rw [kz a ha, kz b hb]
  · rw [List.map_mergeSort (s := leK) (f := fun z : Ent × Gp => z.2) fun a ha b hb => rfl]
    rw [List.map_snd_zip (by omega)]
  · rw [List.length_mergeSort, List.length_zip]
    omega
theorem pick_sub : ∀ (l : List Gp) (M : List (List Fc)) (r : List Fc), r ∈ l.foldl keepG M → r ∈ M ∨ ∃ g ∈ l, r ∈ g.2
  | [], M, r, h => .inl h
  | g :: l, M, r, h => by
    rcases pick_sub l _ r h with q | ⟨g', h1, h2⟩
    · rcases List.mem_append.mp q with q | q
      · exact .inl q
      · exact .inr ⟨g, List.mem_cons_self, (List.mem_filter.mp q).1⟩
    · exact .inr ⟨g', List.mem_cons_of_mem _ h1, h2⟩
end
theorem few_of {α : Type} [DecidableEq α] : ∀ (l m : List α), l.Nodup → (∀ x ∈ l, x ∈ m) → l.length ≤ m.length
  | [], _, _, _ => Nat.zero_le _
  | x :: l, m, nd, h => by
    obtain ⟨hx, nd'⟩ := List.nodup_cons.mp nd
    have ih := few_of l (m.erase x) nd' fun y hy => (List.mem_erase_of_ne (fun (e : y = x) => hx (by rw [← e]; exact hy))).mpr (h y (List.mem_cons_of_mem _ hy))
    rw [List.length_erase_of_mem (h x List.mem_cons_self)] at ih
    have := List.length_pos_of_mem (h x List.mem_cons_self)
    rw [List.length_cons]
    omega
theorem grp_total {ps : List (List Fc)} {Gs : List Gp} (gr : Grp ps Gs) : (Gs.map fun g => g.2.length).sum ≤ ps.length := by
  have nd : (Gs.map (·.2)).flatten.Nodup := by
    refine List.pairwise_flatten.mpr ⟨fun l hl => ?_, List.pairwise_map.mpr ?_⟩
    · obtain ⟨g, hg, rfl⟩ := List.mem_map.mp hl
      exact gr.nd g hg
    · refine List.Pairwise.imp_of_mem (fun {a b} ha hb ne x hx y hy e => ne ?_) (List.pairwise_map.mp gr.kn)
      rw [← gr.key a ha x hx, ← gr.key b hb y hy, e]
  have h := few_of (Gs.map (·.2)).flatten (ps.map red) nd fun x hx => by
    obtain ⟨l, hl, hx⟩ := List.mem_flatten.mp hx
    obtain ⟨g, hg, rfl⟩ := List.mem_map.mp hl
    obtain ⟨p, hp, rfl⟩ := (gr.mem x).mp ⟨g, hg, hx⟩
    exact List.mem_map_of_mem hp
  rw [List.length_flatten, List.length_map, List.map_map] at h
  exact h
theorem take_total (l : List Nat) (i : Nat) : (l.take i).sum ≤ l.sum := by
  conv => rhs; rw [← List.take_append_drop i l, List.sum_append]
  exact Nat.le_add_right _ _
/-! ### what is promised -/
def MaxOf (ps zs : List (List Fc)) : Prop := ∃ Gs : List Gp, Grp ps Gs ∧ zs = (pickM (Gs.mergeSort leK)).mergeSort (fun x y => decide (tl (pform x) ≤ tl (pform y)))
def spMx (K : PySem.W.Frag) : Sp := fun vs H Q _ => ∃ (a : Addr) (xs : List V) (ps : List (List Fc)), vs = [.ref a] ∧ SqL K H a xs ∧ IsL K H xs ps ∧ ps.length ≤ 1000000 ∧ (∀ p ∈ ps, p.length ≤ 10000 ∧ ∀ f ∈ p, Low f) ∧
  ∀ H' q ys zs, Same H H' → H q = none → H' q = some (.lst ys) → IsL K H' ys zs → MaxOf ps zs → Q (.ref q) H'
theorem red_le (fs : List Fc) : (red fs).length ≤ fs.length := by
  have h : ∀ (fs st : List Fc), (fs.foldl stp st).length ≤ st.length + fs.length := by
    intro fs
    induction fs with
    | nil => intro st; exact Nat.le_refl _
    | cons f fs ih =>
      intro st
      have h1 := ih (stp st f)
      have h2 := stp_len st f
      rw [List.foldl_cons, List.length_cons]
      omega
  have q := h fs []
  unfold red
  rw [List.length_reverse]
  simpa using q
theorem addR_len (rs : List (List Fc)) (r : List Fc) : (addR rs r).length ≤ rs.length + 1 := by
  unfold addR
  split
  · omega
  · rw [List.length_append]
    exact Nat.le_refl _
section
variable {P : Program} {w : World} {K : PySem.W.Frag} {mg : Str → Option Value} {base : Heap}
theorem scMx : FnScope ["products", "groups", "product", "reduced", "group", "maximal", "size"] ["products"] (defScope sMaximalProducts) := ⟨rfl, rfl, rfl, by decide +kernel, rfl, by decide +kernel, by decide +kernel⟩
structure DfMx (K : PySem.W.Frag) (mg : Str → Option Value) where
  m : Df K mg "maximal_products" sMaximalProducts ["products"]
  r : Df K mg "reduce_product" sReduceProduct ["product"]
  z : Df K mg "size_of_product" sSizeOfProduct ["product"]
  i : Df K mg "is_inside" sIsInside ["product", "products"]
  incl : DfIncl K mg
  bw : DfBw K mg
  ma : mg "all" = none
  mt : mg "tuple" = none
  mr : mg "reversed" = none
  mg0 : mg "range" = none
  mm : ∃ t, mg "MOST_LETTERS" = some (.int 3 t)
theorem ok_mx (D : DfMx K mg) : FnOk P w K mg base CX0 6 D.m.f D.m.fd ["products"] (spMx K) := by
  have Gr : FnOk P w K mg base CX0 2 D.r.f D.r.fd ["product"] (spRd K) := ok_rd D.r D.incl.s D.ma D.mt
  have Gz : FnOk P w K mg base CX0 1 D.z.f D.z.fd ["product"] (spSz K) := ok_sz D.z D.bw.ml D.mt D.mr D.mg0 D.mm
  have Gi : FnOk P w K mg base CX0 5 D.i.f D.i.fd ["product", "products"] (spIn K) := ok_in D.i D.incl D.ma D.bw.ml
  have Gb : FnOk P w K mg base CX0 5 D.bw.b.f D.bw.b.fd ["products"] (spBw K) := ok_bw D.bw
  refine D.m.F.ok scMx (fun vs H Q E h => ?_) (fun cdv A outer s H vs Q E hr h => ?_)
  · obtain ⟨a, xs, ps, rfl, _⟩ := h
    rfl
  · obtain ⟨a, xs, ps, rfl, ha, iL, pl, pok, k⟩ := h
    have hr1 : Room 1 _ := hr.mono (by decide)
    have hr2 : Room 2 _ := hr.mono (by decide)
    have xl := iL.len
    refine ⟨_, PSs.nox (pss_cons (ps_set (i := 1) scMx.nd rfl (.inl rfl) ND.pe_dnewN) (pss_cons (ps_for PassesOwn.never rfl (pi_list (pv 0)) (pg_name (i := 2) scMx.nd rfl (.inl rfl)) (pss_cons (ps_set (i := 3) scMx.nd rfl (.inl rfl) (pe_call Gr hr2 (by rfl) D.r.g D.r.F.kp D.r.b .nil pass0 (pa_cons (pv 2) pa_nil))) (pss_cons (ps_set (i := 4) scMx.nd rfl (.inl rfl) (ND.pe_dsetdN (u9 hr) (pv 1) (pe_call Gz hr1 (by rfl) D.z.g D.z.F.kp D.z.b .nil pass0 (pa_cons (pv 3) pa_nil)) ND.pe_dnewN ⟨by rfl, by rfl, by rfl, by rfl⟩)) (pss_one (ND.ps_dputN (u9 hr) (pv 4) (pv 3) pe_bl rfl))))) (pss_cons (ps_set (i := 5) scMx.nd rfl (.inr rfl) (pe_lst pa_nil)) (pss_cons (ps_for PassesOwn.never rfl (pi_list (pe_callBK (ND.cr_sortedD (b := true) rfl hr.units) (by rfl) D.bw.ms (by decide +kernel) (pa_cons (pv 1) pa_nil) (pk_cons pe_bl pk_nil))) (pg_name (i := 6) scMx.nd rfl (.inl rfl)) (pss_one (ps_set (i := 5) scMx.nd rfl (.inr rfl) (pe_op op_cat (pv 5) (pe_lock (pe_lc (own := [("product", 2)]) (g := gName 2) rfl scMx.nd (ND.pi_keysN (ND.pe_dgetN (u9 hr) (pv 1) (pv 6) (fun _ _ => rfl))) (blkOk_by (N := ["products", "groups", "product", "reduced", "group", "maximal", "size"]) (sc := defScope sMaximalProducts) (by decide +kernel)) (fun _ _ _ _ _ => pg_name (i := 2) scMx.nd rfl (Or.inl rfl)) (fun _ _ _ _ _ => (pts_one (pt_not (pt_val (pe_call Gi hr (by rfl) D.i.g D.i.F.kp D.i.b .nil pass0 (pa_cons (pv 2) (pa_cons (pv 5) pa_nil))))))) (fun _ _ _ _ _ => (pv 2)))))))) (pss_one (ps_ret (pe_call Gb hr (by rfl) D.bw.b.g D.bw.b.F.kp D.bw.b.b .nil pass0 (pa_cons (pv 5) pa_nil)))))))), ?_⟩
    intro D0 hD0
    have s0 := same_upd (o := DO P w D0 []) hD0
    have GD0 : GD P w K H (upd H D0 (DO P w D0 [])) D0 [] [] := ⟨upd_same, hD0, rfl, fun i e g h _ => by simp at h, fun i j e e' h _ _ => by simp at h, fun e he => (nomatch he)⟩
    have Gr0 : Grp (ps.take 0) [] := ⟨fun r => ⟨fun ⟨g, hg, _⟩ => (nomatch hg), fun ⟨p, hp, _⟩ => (nomatch hp)⟩, fun g hg => (nomatch hg), fun g hg => (nomatch hg), List.nodup_nil⟩
    refine ⟨.ref a, rfl, a, rfl, ⟨xs, same_lst s0 ha⟩, for_it (walk_list (xs := xs)) (fun i σ G => ∃ (kvs : List Ent) (Gs : List Gp) (y2 y3 y4 : Option V), σ = [some (.ref a), some (.ref D0), y2, y3, y4, none, none] ∧ GD P w K H G D0 kvs Gs ∧ Grp (ps.take i) Gs ∧ kvs.length ≤ i ∧ (∀ g ∈ Gs, g.2.length ≤ i ∧ g.1 ≠ []) ∧ Same H G)
      ⟨[], [], _, _, _, rfl, GD0, Gr0, Nat.le_refl _, fun g hg => (nomatch hg), s0⟩ (fun _ _ _ _ ⟨_, _, _, _, _, _, _, _, _, _, sm⟩ => same_lst sm ha) ?_ ?_⟩
    · rintro i x σ G G' hi ⟨kvs, Gs, y2, y3, y4, rfl, gd, gr, kl, gl, sm⟩ ⟨rfl, hx⟩
      obtain ⟨p, hp, isp0⟩ := iL.get i x hx
      have pm : p ∈ ps := List.mem_of_getElem? hp
      have il : i < ps.length := (List.getElem?_eq_some_iff.mp hp).1
      obtain ⟨p1, p2⟩ := pok p pm
      have rlow : ∀ f ∈ red p, Low f := fun f hf => p2 f (red_mem hf)
      have tk : ps.take (i + 1) = ps.take i ++ [p] := by rw [List.take_add_one, hp]; rfl
      refine ⟨x, rfl, x, p, rfl, isp0.mono (same_tup sm), fun f hf => (p2 f hf).2, by omega, fun H2 u s2 isr => ?_⟩
      have gd2 := gd.same s2
      obtain ⟨b, xr, rfl, hb, iFr⟩ := id isr
      have rl := red_le p
      refine ⟨.ref D0, rfl, D0, kvs, rfl, gd2.at0, gd2.oks, .ref b, rfl, .ref b, red p, rfl, isr, fun f hf => (rlow f hf).2, by omega, fun H3 ka s3 nka hka => ?_⟩
      intro De hDe
      have gd3 := gd2.same s3
      have s4 := same_upd (o := DO P w De []) hDe
      have gd4 := gd3.same s4
      have sm4 := ((sm.trans s2).trans s3).trans s4
      have hka4 : SqT K (upd H3 De (DO P w De [])) ka ((sizeT (red p)).map V.int) := same_tup s4 _ _ (SqT.of hka)
      have isr4 : IsP K (upd H3 De (DO P w De [])) (.ref b) (red p) := isr.mono (same_tup (s3.trans s4))
      have hDe4 : (upd H3 De (DO P w De [])) De = some (DO P w De []) := upd_same
      refine ⟨ka, kvs, numKey (sizeT (red p)), rfl, gd4.at0, gd4.oks, .tup hka4 (nums_nk _), depth_num _, by rw [sizeLine_eq]; omega, fun v hv => ?_, fun hv => ?_⟩
      · obtain ⟨j, e, he, ek, rfl⟩ := valN_some hv
        obtain ⟨g, hg, E⟩ := gd4.gp he
        obtain ⟨Dj, rows, ev, hDj, rw1⟩ := E.dic
        have kg : sizeT (red p) = g.1 := (numKey_inj (E.key.symm.trans ek)).symm
        have gm : g ∈ Gs := List.mem_of_getElem? hg
        rw [ev]
        refine ⟨.ref Dj, rfl, .ref b, rfl, Dj, b, rows, prodKey (red p), rfl, rfl, hDj, rw1.oks, isP_nk isr4, depth_prod _, ?_, ?_⟩
        · rw [rw1.len, sizeLine_eq]
          have := (gl g gm).1
          omega
        refine ⟨kvs, _, _, _, _, rfl, gd_old gd4 he hg ev hDj rw1 isr4, ?_, by omega, fun g' hg' => ?_, ?_⟩
        · rw [tk]
          exact grp_old gr hg kg
        · rcases List.mem_or_eq_of_mem_set hg' with q | q
          · have := (gl g' q).1
            exact ⟨by omega, (gl g' q).2⟩
          · rw [q]
            have h1 := addR_len g.2 (red p)
            have h2 := (gl g gm).1
            refine ⟨?_, (gl g gm).2⟩
            show (addR g.2 (red p)).length ≤ i + 1
            omega
        · obtain ⟨Dx, x1, x2, _⟩ := gd4.nw e (List.mem_of_getElem? he)
          rw [ev] at x1
          cases x1
          exact fun c o q => (upd_ne (ne_of_none q x2)).trans (sm4 _ _ q)
      · have nk := valN_none hv
        have n0 : H De = none := ((sm.trans s2).trans s3).free hDe
        have ne0 : De ≠ D0 := (ne_of_none gd3.at0 hDe).symm
        have nei : ∀ e ∈ kvs, e.2.2 ≠ .ref De := fun e he z => by
          obtain ⟨n, hn⟩ := List.getElem?_of_mem he
          obtain ⟨g, _, E⟩ := gd3.gp hn
          obtain ⟨Dj, rows, ev, hDj, _⟩ := E.dic
          rw [ev] at z
          cases z
          rw [hDe] at hDj
          cases hDj
        have pn : putN kvs (numKey (sizeT (red p))) ka (.ref De) = kvs ++ [(numKey (sizeT (red p)), ka, .ref De)] := by
          unfold putN
          rw [hv]
          rfl
        rw [pn]
        have hDe5 : (upd (upd H3 De (DO P w De [])) D0 (DO P w D0 (kvs ++ [(numKey (sizeT (red p)), ka, V.ref De)]))) De = some (DO P w De []) := (upd_ne ne0).trans hDe4
        refine ⟨.ref De, rfl, .ref b, rfl, De, b, [], prodKey (red p), rfl, rfl, hDe5, fun e he => (nomatch he), isP_nk (isr4.mono (fun c xs h => upd_do gd4.at0 c xs h)), depth_prod _, by rw [sizeLine_eq]; decide, ?_⟩
        refine ⟨_, _, _, _, _, rfl, gd_new gd4 hDe4 n0 ne0 nei hka4 isr4, ?_, ?_, fun g' hg' => ?_, fun c o q => ?_⟩
        · rw [tk]
          refine grp_new gr fun g hg z => ?_
          obtain ⟨n, hn⟩ := List.getElem?_of_mem hg
          have nl := (List.getElem?_eq_some_iff.mp hn).1
          have hl := gd4.len
          have he : kvs[n]? = some (kvs[n]'(by omega)) := List.getElem?_eq_getElem (by omega)
          exact nk _ (List.mem_of_getElem? he) (by rw [(gd4.eg n _ g he hn).key, z])
        · rw [List.length_append]
          show _ + 1 ≤ _
          omega
        · rcases List.mem_append.mp hg' with q | q
          · have := (gl g' q).1
            exact ⟨by omega, (gl g' q).2⟩
          · rw [List.mem_singleton.mp q]
            refine ⟨?_, List.cons_ne_nil _ _⟩
            show 1 ≤ i + 1
            omega
        · exact (upd_ne (ne_of_none q n0)).trans ((upd_ne (ne_of_none q hD0)).trans (sm4 _ _ q))
    · rintro σ G ⟨kvs, Gs, y2, y3, y4, rfl, gd, gr, kl, gl, sm⟩
      rw [xl, List.take_length] at gr
      obtain ⟨Zs, z1, z2, zl, zm⟩ := gd_zip gd
      have tot : (Zs.map fun z => z.2.2.length).sum ≤ ps.length := by
        have e : (Zs.map fun z => z.2.2.length) = (Gs.mergeSort leK).map fun g => g.2.length := by
          rw [z2, List.map_map]
          rfl
        rw [e, (((List.mergeSort_perm Gs leK).map fun g => g.2.length)).sum_nat]
        exact grp_total gr
      have totx : ∀ {i : Nat} {z : Ent × Gp}, Zs[i]? = some z → ((Zs.take i).map fun z => z.2.2.length).sum + z.2.2.length ≤ ps.length ∧ ((Zs.take (i + 1)).map fun z => z.2.2.length).sum = ((Zs.take i).map fun z => z.2.2.length).sum + z.2.2.length := fun {i z} hz => by
        have e : ((Zs.take (i + 1)).map fun z => z.2.2.length).sum = ((Zs.take i).map fun z => z.2.2.length).sum + z.2.2.length := by
          rw [List.take_add_one, hz, List.map_append, List.sum_append]
          simp
        refine ⟨?_, e⟩
        rw [← e, List.map_take]
        exact Nat.le_trans (take_total _ _) tot
      have glow : ∀ g ∈ Gs, ∀ r ∈ g.2, (∀ f ∈ r, Low f) ∧ r.length ≤ 10000 := fun g hg r hr => by
        obtain ⟨p, hp, rfl⟩ := (gr.mem r).mp ⟨g, hg, hr⟩
        have h1 := red_le p
        have h2 := (pok p hp).1
        exact ⟨fun f hf => (pok p hp).2 f (red_mem hf), by omega⟩
      have plow : ∀ (i : Nat), ∀ r ∈ pickM ((Zs.take i).map (·.2)), (∀ f ∈ r, Low f) ∧ r.length ≤ 10000 := fun i r hr => by
        rcases pick_sub _ _ r hr with q | ⟨g, h1, h2⟩
        · exact (nomatch q)
        · obtain ⟨z, hz, rfl⟩ := List.mem_map.mp h1
          obtain ⟨n, _, hn⟩ := zm z (List.mem_of_mem_take hz)
          exact glow _ (List.mem_of_getElem? hn) r h2
      have dk : ∀ e ∈ kvs, ∃ ns : List Int, e.1.data = .tuple (ns.map PyData.int) ∧ ns ≠ [] := fun e he => by
        obtain ⟨n, hn⟩ := List.getElem?_of_mem he
        obtain ⟨g, hg, E⟩ := gd.gp hn
        exact ⟨g.1, by rw [E.key, data_num], (gl g (List.mem_of_getElem? hg)).2⟩
      refine ⟨by rw [sizeLine_eq]; decide, fun M hM => ?_⟩
      have sM := same_upd (o := .lst []) hM
      have gdM := gd.same sM
      refine ⟨.ref D0, rfl, D0, kvs, rfl, rfl, .inl gdM.at0, gdM.oks, ?_, ?_, fun e he => ?_, fun L hL => ?_⟩
      · intro d hd d' hd'
        obtain ⟨e, he, rfl⟩ := List.mem_map.mp hd
        obtain ⟨e', he', rfl⟩ := List.mem_map.mp hd'
        obtain ⟨ns, h1, _⟩ := dk e he
        obtain ⟨ns', h2, _⟩ := dk e' he'
        show PySem.W.alike e.1.data e'.1.data = true
        rw [h1, h2, PySem.W.alike]
        exact PySem.W.alike_ints ns ns'
      · refine .inl fun d hd => ?_
        obtain ⟨e, he, rfl⟩ := List.mem_map.mp hd
        obtain ⟨ns, h1, h2⟩ := dk e he
        match ns, h1, h2 with
        | n :: ns, h1, _ => exact ⟨_, _, h1⟩
      · obtain ⟨ns, h1, _⟩ := dk e he
        rw [h1, PyData.depth, depth_ints]
        decide
      rw [z1]
      have sL := same_upd (o := .lst (keyVs (Zs.map (·.1)))) hL
      have kzl : (keyVs (Zs.map (·.1))).length = Zs.length := by
        unfold keyVs
        rw [List.length_map, List.length_map]
      refine ⟨L, rfl, ⟨_, SqL.of upd_same⟩, for_it (walk_list (xs := keyVs (Zs.map (·.1)))) (fun i σ F => ∃ (N : Addr) (ms : List V) (y6 : Option V), σ = [some (.ref a), some (.ref D0), y2, y3, y4, some (.ref N), y6] ∧ F N = some (.lst ms) ∧ IsL K F ms (pickM ((Zs.take i).map (·.2))) ∧ ms.length ≤ ((Zs.take i).map fun z => z.2.2.length).sum ∧ Same (upd (upd G M (.lst [])) L (.lst (keyVs (Zs.map (·.1))))) F)
        ⟨M, [], _, rfl, sL _ _ upd_same, .nil, Nat.zero_le _, Same.refl _⟩ (fun _ _ _ _ ⟨_, _, _, _, _, _, _, sF⟩ => SqL.of (sF _ _ upd_same)) ?_ ?_⟩
      · rintro i x σ F0 F hi ⟨N, ms, y6, rfl, hN, iM, ml, sF⟩ ⟨rfl, hx⟩
        rw [kzl] at hi
        have gdF := (gdM.same sL).same sF
        have hz : Zs[i]? = some Zs[i] := List.getElem?_eq_getElem hi
        generalize Zs[i] = z at hz
        obtain ⟨tz1, tz2⟩ := totx hz
        obtain ⟨n, hn1, hn2⟩ := zm z (List.mem_of_getElem? hz)
        obtain ⟨ek, et, Di, rows, ev, hDi, rw1⟩ := gdF.eg n z.1 z.2 hn1 hn2
        have gm : z.2 ∈ Gs := List.mem_of_getElem? hn2
        have rl := rw1.len
        have rb := (gl z.2 gm).1
        have ex : x = .ref z.1.2.1 := by
          unfold keyVs at hx
          rw [List.getElem?_map, List.getElem?_map, hz] at hx
          exact (Option.some.inj hx).symm
        subst ex
        have n0 : Di ≠ D0 := by
          obtain ⟨Dx, x1, _, x3⟩ := gdF.nw z.1 (List.mem_of_getElem? hn1)
          rw [ev] at x1
          cases x1
          exact x3
        refine ⟨.ref N, rfl, Di, DO P w Di rows, hDi, trivial, fun od => ?_⟩
        have m1 : ∀ b xs, SqT K F b xs → SqT K (upd F Di (.frz od (DO P w Di rows))) b xs := fun b xs h => upd_do hDi b xs h
        have nd : (kvs.map (·.1)).Nodup := by
          rw [gdF.keys]
          have q := gr.kn
          have e : (Gs.map fun g => numKey g.1) = (Gs.map (·.1)).map numKey := by rw [List.map_map]; rfl
          rw [e]
          exact List.Pairwise.map numKey (fun a b h e => h (numKey_inj e)) q
        have vk : valN kvs (numKey z.2.1) = some (.ref Di) := by
          rw [← ek, ← ev]
          exact valN_get nd hn1
        refine ⟨.ref D0, rfl, .ref z.1.2.1, rfl, D0, z.1.2.1, kvs, numKey z.2.1, .ref Di, rfl, rfl, ⟨.inl ((upd_ne n0.symm).trans gdF.at0), gdF.oks.mono m1, .tup (m1 _ _ et) (nums_nk _), depth_num _⟩, vk, Di, od, rows, rfl, upd_same, fun B hB => ?_⟩
        have sB := same_upd (o := .lst []) hB
        have hNf : (upd F Di (.frz od (DO P w Di rows))) N = some (.lst ms) := (upd_ne (ne_of hN hDi (by intro z; cases z))).trans hN
        refine lc_it ND.walk_keysN (fun j F2 => ∃ acc, F2 B = some (.lst acc) ∧ IsL K F2 acc ((z.2.2.take j).filter fun r => !((pickM ((Zs.take i).map (·.2))).any fun m => inc m r)) ∧ acc.length ≤ j ∧ Same (upd F Di (.frz od (DO P w Di rows))) F2) ⟨[], upd_same, .nil, Nat.le_refl _, sB⟩ (fun _ _ _ ⟨_, _, _, _, s2⟩ => s2 _ _ upd_same) ?_ ?_
        · rintro j y F3 F2 hj ⟨acc, hB2, iA, al, s2⟩ ⟨rfl, e, he, rfl⟩
          obtain ⟨r, hr1, _⟩ := rw1.key he
          have isr := rw1.isp j e r he hr1
          have rm : r ∈ z.2.2 := List.mem_of_getElem? hr1
          have isr2 : IsP K F2 (.ref e.2.1) r := (isr.mono m1).mono (same_tup s2)
          have tk : z.2.2.take (j + 1) = z.2.2.take j ++ [r] := by rw [List.take_add_one, hr1]; rfl
          refine ⟨rfl, .ref e.2.1, rfl, .ref N, rfl, .ref e.2.1, N, r, ms, _, rfl, isr2, SqL.of (s2 _ _ hNf), (iM.mono m1).mono (same_tup s2), (glow _ gm r rm).1, fun q hq => (plow i q hq).1, fun F4 s4 => ⟨_, rfl, ?_⟩⟩
          have hB4 := s4 _ _ hB2
          have iA4 := iA.mono (same_tup s4)
          cases c : (pickM ((Zs.take i).map (·.2))).any fun m => inc m r with
          | true =>
            refine iteF ?_
            refine ⟨acc, hB4, ?_, by omega, s2.trans s4⟩
            rw [tk, List.filter_append, List.filter_cons, c]
            simpa using iA4
          | false =>
            refine iteT ⟨.ref e.2.1, rfl, acc, hB4, by rw [sizeLine_eq]; omega, acc ++ [.ref e.2.1], upd_same, ?_, by rw [List.length_append]; show _ + 1 ≤ _; omega, fun b o q => ?_⟩
            · rw [tk, List.filter_append, List.filter_cons, c]
              have st : ∀ b xs, SqT K F4 b xs → SqT K (upd F4 B (.lst (acc ++ [.ref e.2.1]))) b xs := fun b xs h => upd_tup hB4 b xs h
              exact (iA4.mono st).app (.cons ((isr2.mono (same_tup s4)).mono st) .nil)
            · exact (upd_ne (ne_of_none q hB)).trans (s4 _ _ (s2 _ _ q))
        · rintro F2 ⟨acc, hB2, iA, al, s2⟩
          have hfz := s2 _ _ (upd_same : (upd F Di (.frz od (DO P w Di rows))) Di = _)
          refine ⟨hfz, ?_⟩
          have s3 : Same F (upd F2 Di (DO P w Di rows)) := fun b o q => by
            by_cases c : b = Di
            · rw [c] at q ⊢
              rw [hDi] at q
              rw [upd_same, q]
            · exact (upd_ne c).trans (s2 _ _ ((upd_ne c).trans q))
          have m3 : ∀ b xs, SqT K F2 b xs → SqT K (upd F2 Di (DO P w Di rows)) b xs := fun b xs h => upd_frz hfz (by intro xs z; cases z) b xs h
          have hBd : (upd F2 Di (DO P w Di rows)) B = some (.lst acc) := (upd_ne (ne_of hB2 hfz (by intro z; cases z))).trans hB2
          refine ⟨N, B, ms, acc, rfl, rfl, s3 _ _ hN, hBd, by rw [sizeLine_eq]; omega, fun R hR => ?_⟩
          have sR := same_upd (o := .lst (ms ++ acc)) hR
          refine ⟨R, _, _, rfl, upd_same, ?_, ?_, (sF.trans s3).trans sR⟩
          · have e : pickM ((Zs.take (i + 1)).map (·.2)) = pickM ((Zs.take i).map (·.2)) ++ z.2.2.filter fun r => !((pickM ((Zs.take i).map (·.2))).any fun m => inc m r) := by
              rw [List.take_add_one, hz, List.map_append]
              unfold pickM
              rw [List.foldl_append]
              rfl
            rw [e]
            rw [rl, List.take_length] at iA
            exact (iM.mono (same_tup (s3.trans sR))).app ((iA.mono m3).mono (same_tup sR))
          · rw [List.length_append, tz2]
            omega
      · rintro σ F ⟨N, ms, y6, rfl, hN, iM, ml, sF⟩
        rw [kzl, List.take_length, ← z2] at iM
        have sA := ((sm.trans sM).trans sL).trans sF
        refine ⟨.ref N, rfl, N, ms, _, rfl, SqL.of hN, iM, fun q hq => ?_, fun F2 R ys zs s2 hR hR2 iZ ez => ?_⟩
        · rw [z2] at hq
          have q2 := plow Zs.length q (by rw [List.take_length]; exact hq)
          exact ⟨fun f hf => (q2.1 f hf).2, q2.2⟩
        · exact k F2 R ys zs (sA.trans s2) (sA.free hR) hR2 iZ ⟨Gs, gr, ez⟩
end
end DW
/-! is_ascending, is_alphabet, is_word -/
namespace DW
open PySem PySem.Spec PyProof.Rows L2 TL
set_option autoImplicit false
def ascB (l : List Nat) : Bool := (l.zip (l.drop 1)).all fun p => decide (p.1 < p.2)
def lowB (c : Nat) : Bool := decide (97 ≤ c) && decide (c ≤ 122)
def alphB (l : List Nat) : Bool := decide (1 ≤ l.length) && decide (l.length ≤ 3) && (l.all lowB && ascB l)
theorem lt1 (c d : Nat) : decide ([c] < [d]) = decide (c < d) := by
  rw [decide_eq_decide]
  constructor
  · intro h
    rcases List.cons_lt_cons_iff.mp h with q | q
    · exact q
    · exact absurd q.2 (List.not_lt_nil _)
  · intro h
    exact List.cons_lt_cons_iff.mpr (.inl h)
theorem low_eq (c : Nat) : (if (!decide (([c] : List Nat) < [97])) = true then !decide (([122] : List Nat) < [c]) else false) = lowB c := by
  rw [lt1, lt1]
  unfold lowB
  by_cases h : c < 97
  · rw [decide_eq_true h]
    simp
    omega
  · rw [decide_eq_false h]
    simp
    by_cases g : 122 < c
    · rw [decide_eq_true g, decide_eq_true (by omega : 97 ≤ c), decide_eq_false (by omega : ¬ c ≤ 122)]
      rfl
    · rw [decide_eq_false g, decide_eq_true (by omega : 97 ≤ c), decide_eq_true (by omega : c ≤ 122)]
      rfl
/-- not a text -/
def NoS (K : PySem.W.Frag) (H : Hp) (v : V) : Prop := ∃ t, TyX K H v t ∧ PySem.W.kitOne K t (.type "str") = some false
theorem isi_kit {K : PySem.W.Frag} : PySem.W.kitOne K (.type "str") (.type "str") = some true := kit_ty (by decide +kernel)
def spAsc : Sp := fun vs H Q _ => ∃ (x : Str), vs = [.str x] ∧ (tl x).length ≤ 100000 ∧ ∀ H', Same H H' → Q (.bl (ascB (tl x))) H'
def spAlp (K : PySem.W.Frag) : Sp := fun vs H Q _ => ∃ v : V, vs = [v] ∧ ((∃ x : Str, v = .str x ∧ (tl x).length ≤ 100000 ∧ ∀ H', Same H H' → Q (.bl (alphB (tl x))) H') ∨ (NoS K H v ∧ ∀ H', Same H H' → Q (.bl false) H'))
def spIw (K : PySem.W.Frag) : Sp := fun vs H Q _ => ∃ (z : Str) (v : V), vs = [.str z, v] ∧ ((∃ x : Str, v = .str x ∧ (tl x).length ≤ 100000 ∧ ∀ H', Same H H' → Q (.bl ((tl x).all fun c => decide (c ∈ tl z))) H') ∨ (NoS K H v ∧ ∀ H', Same H H' → Q (.bl false) H'))
theorem cut1 (x : Str) : tl (cutS x (some 1) none) = (tl x).drop 1 := by
  show (x.cps.toList.drop (HT.sIx x.length 0 (some 1))).take (HT.sIx x.length x.length none - HT.sIx x.length 0 (some 1)) = x.cps.toList.drop 1
  rw [show HT.sIx x.length 0 (some 1) = min 1 x.length from HT.sIx_nat x.length 0 1, HT.sIx_none]
  have e : x.length = x.cps.toList.length := (Array.length_toList).symm
  by_cases h : 1 ≤ x.length
  · rw [show min 1 x.length = 1 by omega]
    exact List.take_of_length_le (by rw [List.length_drop]; omega)
  · have h0 : x.cps.toList = [] := List.length_eq_zero_iff.mp (by omega)
    rw [h0]
    simp
section
variable {P : Program} {w : World} {K : PySem.W.Frag} {mg : Str → Option Value} {base : Heap}
theorem scAsc : FnScope ["letters", "one", "other"] ["letters"] (defScope sIsAscending) := ⟨rfl, rfl, rfl, by decide +kernel, rfl, by decide +kernel, by decide +kernel⟩
theorem ok_asc (D : Df K mg "is_ascending" sIsAscending ["letters"]) (ma : mg "all" = none) (mz : mg "zip" = none) : FnOk P w K mg base CX0 1 D.f D.fd ["letters"] spAsc := by
  refine D.F.ok scAsc (fun vs H Q E h => ?_) (fun cdv A outer s H vs Q E hr h => ?_)
  · obtain ⟨x, rfl, _⟩ := h
    rfl
  · obtain ⟨x, rfl, xl, k⟩ := h
    have sz : ∀ y : Str, y.length = (tl y).length := fun y => (Array.length_toList).symm
    refine ⟨_, (pss_one (ps_ret (pe_callB (cr_all rfl) (by rfl) ma (by decide +kernel) (pa_cons (pe_lc (own := [("one", 1), ("other", 2)]) (g := gTup K 2 (gCons (gName 1) (gCons (gName 2) gNil))) rfl scAsc.nd (ZX.pi_zipX (by rfl) mz (pa_cons (pv 0) (pa_cons (pe_slice sl_str (pv 0) (po_some pe_int) po_none) pa_nil))) (blkOk_by (N := ["letters", "one", "other"]) (sc := defScope sIsAscending) (by decide +kernel)) (fun _ _ _ _ _ => pg_tup rfl (pgs_cons (pg_name (i := 1) scAsc.nd rfl (.inl rfl)) (pgs_cons (pg_name (i := 2) scAsc.nd rfl (.inl rfl)) pgs_nil))) (fun _ _ _ _ _ => pts_nil) (fun _ _ _ _ _ => (pe_cmpR op_lt_str (pv 1) (pv 2) (nomark _)))) pa_nil)))), ?_⟩
    refine ⟨.str x, rfl, .str x, rfl, 1, rfl, ?_⟩
    unfold tNoPart
    refine ⟨x, rfl, by rw [sz, sizeLine_eq]; omega, x, _, rfl, fun L hL => ?_⟩
    have e1 := cut1 x
    generalize hy : cutS x (some 1) none = y at e1 ⊢
    have xs : x.cps.size = (tl x).length := (Array.length_toList).symm
    have ys : y.cps.size = (tl y).length := (Array.length_toList).symm
    have sL := same_upd (o := .lst []) hL
    refine lc_it ZX.walk_zipX (fun i H' => ∃ bs : List Bool, H' L = some (.lst (bs.map V.bl)) ∧ bs = (((tl x).zip (tl y)).take i).map (fun p => decide (p.1 < p.2)) ∧ Same H H') ⟨[], upd_same, rfl, sL⟩ (fun _ _ _ _ => trivial) ?_ ?_
    · rintro i v G G' hi ⟨bs, gL, be, sm⟩ ⟨T, c, d, rfl, hT, rfl, hc, hd⟩
      have sT := same_upd (o := .tup [.str ⟨#[c]⟩, .str ⟨#[d]⟩]) hT
      have hc' : (tl x)[i]? = some c := by rw [Array.getElem?_toList]; exact hc
      have hd' : (tl y)[i]? = some d := by rw [Array.getElem?_toList]; exact hd
      have hz : ((tl x).zip (tl y))[i]? = some (c, d) := List.getElem?_zip_eq_some.mpr ⟨hc', hd'⟩
      refine ⟨T, _, rfl, SqT.of upd_same, rfl, _, _, rfl, _, _, rfl, rfl, rfl, yes ?_⟩
      refine ⟨_, rfl, _, rfl, _, _, rfl, rfl, _, sT _ _ gL, ?_, bs ++ [decide (c < d)], ?_, ?_, fun b o e => (upd_ne (ne_of_none e hL)).trans ((sm.trans sT) _ _ e)⟩
      · rw [List.length_map, be, List.length_map, List.length_take, sizeLine_eq]
        omega
      · rw [upd_same, List.map_append]
        show some (HO.lst (_ ++ [V.bl (decide ([c] < [d]))])) = _
        rw [lt1]
        rfl
      · rw [be, List.take_add_one, hz, List.map_append]
        rfl
    · rintro G ⟨bs, gL, be, sm⟩
      refine ⟨L, bs, rfl, SqL.of gL, ?_⟩
      have e2 : bs.all id = ascB (tl x) := by
        rw [be, xs, ys, List.take_of_length_le (by rw [List.length_zip]; omega), List.all_map, e1]
        rfl
      rw [e2]
      exact k _ sm
theorem scAlp : FnScope ["thing", "letter"] ["thing"] (defScope sIsAlphabet) := ⟨rfl, rfl, rfl, by decide +kernel, rfl, by decide +kernel, by decide +kernel⟩
theorem ok_alp (D : Df K mg "is_alphabet" sIsAlphabet ["thing"]) (Da0 : Df K mg "is_ascending" sIsAscending ["letters"]) (ma : mg "all" = none) (mz : mg "zip" = none) (mi : mg "isinstance" = none) (ms : mg "str" = none) (ml : mg "len" = none) (mm0 : ∃ t, mg "MOST_LETTERS" = some (.int 3 t)) : FnOk P w K mg base CX0 2 D.f D.fd ["thing"] (spAlp K) := by
  have Ga : FnOk P w K mg base CX0 1 Da0.f Da0.fd ["letters"] spAsc := ok_asc Da0 ma mz
  have mm : ∃ u, mg "MOST_LETTERS" = some u ∧ RelV (.int 3) u := by
    obtain ⟨t, e⟩ := mm0
    exact ⟨_, e, t, rfl⟩
  refine D.F.ok scAlp (fun vs H Q E h => ?_) (fun cdv A outer s H vs Q E hr h => ?_)
  · obtain ⟨x, rfl, _⟩ := h
    rfl
  · obtain ⟨v, rfl, h⟩ := h
    have sz : ∀ y : Str, y.length = (tl y).length := fun y => (Array.length_toList).symm
    refine ⟨_, (pss_cons (ps_if (pw_or (pt_not (pt_val (pe_callB call_isi (by rfl) mi (by decide +kernel) (pa_cons (pv 0) (pa_cons (pe_bltn (v := V.ty "str") (by rfl) ms (by decide +kernel : bootBuiltins "str" = some (.type "str")) rfl) pa_nil))))) (pw_or1 (pt_not (pt_chain op_le op_le pe_int (pe_callB call_len_str (by rfl) ml PySem.boot_len (pa_cons (pv 0) pa_nil)) (C8.pe_gc (by rfl) mm))))).pt (pss_one (ps_ret pe_bl)) pss_nil) (pss_one (ps_ret (pe_and (pe_callB (cr_all rfl) (by rfl) ma (by decide +kernel) (pa_cons (pe_lc (own := [("letter", 1)]) (g := gName 1) rfl scAlp.nd (pi_str (pv 0)) (blkOk_by (N := ["thing", "letter"]) (sc := defScope sIsAlphabet) (by decide +kernel)) (fun _ _ _ _ _ => pg_name (i := 1) scAlp.nd rfl (Or.inl rfl)) (fun _ _ _ _ _ => pts_nil) (fun _ _ _ _ _ => (pe_chain op_le_str op_le_str pe_str (pv 1) pe_str))) pa_nil)) (pe_one (pe_call Ga hr (by rfl) Da0.g Da0.F.kp Da0.b .nil pass0 (pa_cons (pv 0) pa_nil))))))), ?_⟩
    rcases h with ⟨x, rfl, xl, k⟩ | ⟨⟨t, ty, kt⟩, k⟩
    · have xs : x.cps.size = (tl x).length := (Array.length_toList).symm
      refine ⟨.str x, rfl, _, _, _, _, true, rfl, .ty "str", .base (.str x), isi_kit, true, rfl, ?_⟩
      refine iteF ?_
      refine ⟨.str x, rfl, x, rfl, by rw [sz, sizeLine_eq]; omega, 1, _, rfl, rfl, _, rfl, ?_⟩
      refine ite2 (fun e1 => ?_) (fun e1 => ?_)
      · have e1' : 1 ≤ (tl x).length := by
          have := of_decide_eq_true e1
          rw [sz] at this
          omega
        refine ⟨_, 3, rfl, rfl, _, rfl, ?_⟩
        refine ite2 (fun e2 => ?_) (fun e2 => ?_)
        · have e2' : ¬ (tl x).length ≤ 3 := by
            rw [sz] at e2
            simp at e2
            omega
          have q := k _ (Same.refl H)
          rw [show alphB (tl x) = false by unfold alphB; rw [decide_eq_false e2']; simp] at q
          exact q
        · have e2' : (tl x).length ≤ 3 := by
            rw [sz] at e2
            simp at e2
            omega
          have ea : alphB (tl x) = ((tl x).all lowB && ascB (tl x)) := by
            unfold alphB
            rw [decide_eq_true e1', decide_eq_true e2']
            rfl
          rw [ea] at k
          refine ⟨.str x, rfl, x, rfl, fun L hL => ?_⟩
          have sL := same_upd (o := .lst []) hL
          refine lc_it walk_str (fun i H' => ∃ bs : List Bool, H' L = some (.lst (bs.map V.bl)) ∧ bs = ((tl x).take i).map lowB ∧ Same H H') ⟨[], upd_same, rfl, sL⟩ (fun _ _ _ _ => trivial) ?_ ?_
          · rintro i v G G' hi ⟨bs, gL, be, sm⟩ ⟨rfl, c, hc, rfl⟩
            have hc' : (tl x)[i]? = some c := by rw [Array.getElem?_toList]; exact hc
            refine ⟨rfl, yes ?_⟩
            have fin : ∀ G2 : Hp, G2 = G' → ∃ acc, G2 L = some (.lst acc) ∧ acc.length < sizeLine ∧ ∃ bs : List Bool, (upd G2 L (.lst (acc ++ [V.bl (lowB c)]))) L = some (.lst (bs.map V.bl)) ∧ bs = ((tl x).take (i + 1)).map lowB ∧ Same H (upd G2 L (.lst (acc ++ [V.bl (lowB c)]))) := by
              rintro G2 rfl
              refine ⟨_, gL, ?_, bs ++ [lowB c], ?_, ?_, fun b o e => (upd_ne (ne_of_none e hL)).trans (sm _ _ e)⟩
              · rw [List.length_map, be, List.length_map, List.length_take, sizeLine_eq]
                omega
              · rw [upd_same, List.map_append]
                rfl
              · rw [be, List.take_add_one, hc', List.map_append]
                rfl
            have le := low_eq c
            refine ⟨_, rfl, _, _, rfl, rfl, _, rfl, ?_⟩
            refine ite2 (fun e3 => ?_) (fun e3 => ?_)
            · rw [show (!decide (([c] : List Nat) < [97])) = true from e3, if_pos rfl] at le
              refine ⟨_, _, rfl, rfl, ?_⟩
              have q := fin _ rfl
              rw [← le] at q
              exact q
            · rw [if_neg (show ¬ (!decide (([c] : List Nat) < [97])) = true from e3)] at le
              have q := fin _ rfl
              rw [← le] at q
              exact q
          · rintro G ⟨bs, gL, be, sm⟩
            refine ⟨L, bs, rfl, SqL.of gL, _, rfl, ?_⟩
            have e2 : bs.all id = (tl x).all lowB := by
              rw [be, xs, List.take_length, List.all_map]
              rfl
            rw [e2]
            refine ite2 (fun e3 => ?_) (fun e3 => ?_)
            · refine ⟨.str x, rfl, x, rfl, xl, fun H' s' => ?_⟩
              have q := k _ (sm.trans s')
              rw [e3] at q
              exact q
            · have q := k _ sm
              have e3' : (tl x).all lowB = false := by simpa using e3
              rw [e3'] at q
              exact q
      · have e1' : ¬ 1 ≤ (tl x).length := by
          intro h
          exact e1 (decide_eq_true (by rw [sz]; omega))
        have q := k _ (Same.refl H)
        rw [show alphB (tl x) = false by unfold alphB; rw [decide_eq_false e1']; rfl] at q
        exact ⟨_, rfl, q⟩
    · refine ⟨v, rfl, _, _, _, _, false, rfl, .ty "str", ty, kt, false, rfl, ?_⟩
      exact k _ (Same.refl H)
theorem scIw : FnScope ["alphabet", "thing", "letter"] ["alphabet", "thing"] (defScope sIsWord) := ⟨rfl, rfl, rfl, by decide +kernel, rfl, by decide +kernel, by decide +kernel⟩
theorem ok_iw (D : Df K mg "is_word" sIsWord ["alphabet", "thing"]) (ma : mg "all" = none) (mi : mg "isinstance" = none) (ms : mg "str" = none) : FnOk P w K mg base CX0 1 D.f D.fd ["alphabet", "thing"] (spIw K) := by
  refine D.F.ok scIw (fun vs H Q E h => ?_) (fun cdv A outer s H vs Q E hr h => ?_)
  · obtain ⟨z, x, rfl, _⟩ := h
    rfl
  · obtain ⟨z, v, rfl, h⟩ := h
    refine ⟨_, (pss_one (ps_ret (pe_and (pe_callB call_isi (by rfl) mi (by decide +kernel) (pa_cons (pv 1) (pa_cons (pe_bltn (v := V.ty "str") (by rfl) ms (by decide +kernel : bootBuiltins "str" = some (.type "str")) rfl) pa_nil))) (pe_one (pe_callB (cr_all rfl) (by rfl) ma (by decide +kernel) (pa_cons (pe_lc (own := [("letter", 2)]) (g := gName 2) rfl scIw.nd (pi_str (pv 1)) (blkOk_by (N := ["alphabet", "thing", "letter"]) (sc := defScope sIsWord) (by decide +kernel)) (fun _ _ _ _ _ => pg_name (i := 2) scIw.nd rfl (Or.inl rfl)) (fun _ _ _ _ _ => pts_nil) (fun _ _ _ _ _ => (pe_cmpR op_in_sign (pv 2) (pv 0) rfl))) pa_nil)))))), ?_⟩
    rcases h with ⟨x, rfl, xl, k⟩ | ⟨⟨t, ty, kt⟩, k⟩
    · have xs : x.cps.size = (tl x).length := (Array.length_toList).symm
      refine ⟨.str x, rfl, _, _, _, _, true, rfl, .ty "str", .base (.str x), isi_kit, true, rfl, ?_⟩
      refine iteT ?_
      refine ⟨.str x, rfl, x, rfl, fun L hL => ?_⟩
      have sL := same_upd (o := .lst []) hL
      refine lc_it walk_str (fun i H' => ∃ bs : List Bool, H' L = some (.lst (bs.map V.bl)) ∧ bs = ((tl x).take i).map (fun c => decide (c ∈ tl z)) ∧ Same H H') ⟨[], upd_same, rfl, sL⟩ (fun _ _ _ _ => trivial) ?_ ?_
      · rintro i v G G' hi ⟨bs, gL, be, sm⟩ ⟨rfl, c, hc, rfl⟩
        have hc' : (tl x)[i]? = some c := by rw [Array.getElem?_toList]; exact hc
        refine ⟨rfl, yes ?_⟩
        refine ⟨_, rfl, .str z, rfl, c, z, rfl, rfl, _, gL, ?_, bs ++ [decide (c ∈ tl z)], ?_, ?_, fun b o e => (upd_ne (ne_of_none e hL)).trans (sm _ _ e)⟩
        · rw [List.length_map, be, List.length_map, List.length_take, sizeLine_eq]
          omega
        · rw [upd_same, List.map_append]
          rfl
        · rw [be, List.take_add_one, hc', List.map_append]
          rfl
      · rintro G ⟨bs, gL, be, sm⟩
        refine ⟨L, bs, rfl, SqL.of gL, ?_⟩
        have e2 : bs.all id = (tl x).all fun c => decide (c ∈ tl z) := by
          rw [be, xs, List.take_length, List.all_map]
          rfl
        rw [e2]
        exact k _ sm
    · refine ⟨v, rfl, _, _, _, _, false, rfl, .ty "str", ty, kt, false, rfl, ?_⟩
      exact k _ (Same.refl H)
end
end DW
/-! is_factor and is_product of any object -/
namespace DW
open PySem PySem.Spec PyProof.Rows L2 TL
set_option autoImplicit false
theorem sqT_ty {K : PySem.W.Frag} {H : Hp} {a : Addr} {xs : List V} (h : SqT K H a xs) : TyX K H (.ref a) (.type "tuple") := by
  rcases h with (h | ⟨o, h⟩) | ⟨o, its, n, h, c, _⟩
  · exact .base (.tup h)
  · exact .fTuple h
  · exact .kTuple h c
theorem tup_kit {K : PySem.W.Frag} : PySem.W.kitOne K (.type "tuple") (.type "tuple") = some true := kit_ty (by decide +kernel)
theorem kdo (b : Bool) : decide (V.str (kd b) = V.str "opt") = !b := by
  cases b
  · exact decide_eq_true rfl
  · exact decide_eq_false (by unfold kd; decide +kernel)
theorem kds (b : Bool) : decide (V.str (kd b) = V.str "star") = b := by
  cases b
  · exact decide_eq_false (by unfold kd; decide +kernel)
  · exact decide_eq_true rfl
/-- not a tuple -/
def NoT (K : PySem.W.Frag) (H : Hp) (v : V) : Prop := ∃ t, TyX K H v t ∧ PySem.W.kitOne K t (.type "tuple") = some false
/-- is it a factor: its kind, its letters -/
def facB (z : Str) (k : V) (x : Str) : Bool := (tl x).all (fun c => decide (c ∈ tl z)) && (if decide (k = .str "opt") = true then decide ((tl x).length = 1) else (decide (k = .str "star") && (decide (0 < (tl x).length) && ascB (tl x))))
inductive ObB (K : PySem.W.Frag) (H : Hp) (z : Str) : V → Bool → Prop where
  | no {v : V} (h : NoT K H v) : ObB K H z v false
  | len {a : Addr} {xs : List V} (h : SqT K H a xs) (n : xs.length ≠ 2) : ObB K H z (.ref a) false
  | nos {a : Addr} {k l : V} (h : SqT K H a [k, l]) (n : NoS K H l) : ObB K H z (.ref a) false
  | fac {a : Addr} {k : V} {x : Str} (h : SqT K H a [k, .str x]) (s : ∀ y, scal k (.str y) = true) (xl : (tl x).length ≤ 100000) : ObB K H z (.ref a) (facB z k x)
inductive ObBs (K : PySem.W.Frag) (H : Hp) (z : Str) : List V → List Bool → Prop where
  | nil : ObBs K H z [] []
  | cons {v : V} {b : Bool} {vs : List V} {bs : List Bool} (h : ObB K H z v b) (r : ObBs K H z vs bs) : ObBs K H z (v :: vs) (b :: bs)
theorem ObBs.len {K : PySem.W.Frag} {H : Hp} {z : Str} : ∀ {vs : List V} {bs : List Bool}, ObBs K H z vs bs → vs.length = bs.length
  | _, _, .nil => rfl
  | _, _, .cons _ r => by rw [List.length_cons, List.length_cons, r.len]
theorem ObBs.get {K : PySem.W.Frag} {H : Hp} {z : Str} : ∀ {vs : List V} {bs : List Bool}, ObBs K H z vs bs → ∀ (i : Nat) (v : V), vs[i]? = some v → ∃ b, bs[i]? = some b ∧ ObB K H z v b
  | _, _, .nil, i, v, h => by simp at h
  | _, _, .cons a r, 0, v, h => by
    have e := Option.some.inj h
    subst e
    exact ⟨_, rfl, a⟩
  | _, _, .cons a r, i + 1, v, h => r.get i v h
theorem tyX_same {K : PySem.W.Frag} {H H' : Hp} {v : V} {t : Value} (s : Same H H') (h : TyX K H v t) : TyX K H' v t := by
  cases h with
  | base b =>
    refine .base ?_
    cases b with
    | non => exact .non
    | bl y => exact .bl y
    | int i => exact .int i
    | str y => exact .str y
    | flt y => exact .flt y
    | lst e => exact .lst (s _ _ e)
    | frz e => exact .frz (s _ _ e)
    | tup e => exact .tup (s _ _ e)
    | dK e => exact .dK (s _ _ e)
    | dT e => exact .dT (s _ _ e)
    | ins e a b c d f => exact .ins (s _ _ e) a b c d f
  | byt b => exact .byt b
  | set e => exact .set (s _ _ e)
  | kList e c => exact .kList e c
  | kTuple e c => exact .kTuple e c
  | kDict e c => exact .kDict e c
  | fTuple e => exact .fTuple (s _ _ e)
  | fDict e => exact .fDict (s _ _ e)
theorem ObB.same {K : PySem.W.Frag} {H H' : Hp} {z : Str} {v : V} {b : Bool} (s : Same H H') (h : ObB K H z v b) : ObB K H' z v b := by
  cases h with
  | no h =>
    obtain ⟨t, ty, kt⟩ := h
    exact .no ⟨t, tyX_same s ty, kt⟩
  | len h n => exact .len (same_tup s _ _ h) n
  | nos h n =>
    obtain ⟨t, ty, kt⟩ := n
    exact .nos (same_tup s _ _ h) ⟨t, tyX_same s ty, kt⟩
  | fac h sc xl => exact .fac (same_tup s _ _ h) sc xl
/-- what is told of an object that may be a product -/
inductive PrB (K : PySem.W.Frag) (H : Hp) (z : Str) : V → Bool → Prop where
  | no {v : V} (h : NoT K H v) : PrB K H z v false
  | tup {a : Addr} {xs : List V} {bs : List Bool} (h : SqT K H a xs) (o : ObBs K H z xs bs) (l : bs.length ≤ 100000) : PrB K H z (.ref a) (bs.all id)
def spIf (K : PySem.W.Frag) : Sp := fun vs H Q _ => ∃ (z : Str) (v : V) (b : Bool), vs = [.str z, v] ∧ ObB K H z v b ∧ ∀ H', Same H H' → Q (.bl b) H'
def spIp (K : PySem.W.Frag) : Sp := fun vs H Q _ => ∃ (z : Str) (v : V) (b : Bool), vs = [.str z, v] ∧ PrB K H z v b ∧ ∀ H', Same H H' → Q (.bl b) H'
theorem ascB_of {l : List Nat} (h : l.Pairwise (· < ·)) : ascB l = true := by
  induction l with
  | nil => rfl
  | cons a l ih =>
    cases l with
    | nil => rfl
    | cons b r =>
      obtain ⟨h1, h2⟩ := List.pairwise_cons.mp h
      show (decide (a < b) && ascB (b :: r)) = true
      rw [ih h2, decide_eq_true (h1 b List.mem_cons_self)]
      rfl
/-- a factor that was drawn is one -/
theorem IsF.ob {K : PySem.W.Frag} {H : Hp} {z : Str} {v : V} {f : Fc} (h : IsF K H v f) (fo : FOk z f) (al : Alph z) : ObB K H z v true := by
  obtain ⟨a, rfl, hq⟩ := h
  have fl : (tl f.2).length ≤ 3 := Nat.le_trans fo.2.1.length_le al.2.2.1
  have e : facB z (.str (kd f.1)) f.2 = true := by
    unfold facB
    rw [Bool.and_eq_true]
    refine ⟨List.all_eq_true.mpr fun c hc => decide_eq_true (fo.2.1.subset hc), ?_⟩
    rw [kdo, kds]
    cases q : f.1 with
    | false => exact decide_eq_true (fo.2.2 q)
    | true =>
      rw [ascB_of (al.1.sublist fo.2.1), decide_eq_true (List.length_pos_iff.mpr fo.1)]
      rfl
  have o := ObB.fac (z := z) hq (fun _ => rfl) (Nat.le_trans fl (by decide))
  rw [e] at o
  exact o
theorem IsFs.obs {K : PySem.W.Frag} {H : Hp} {z : Str} (al : Alph z) : ∀ {vs : List V} {fs : List Fc}, IsFs K H vs fs → (∀ f ∈ fs, FOk z f) → ∃ bs, ObBs K H z vs bs ∧ bs.all id = true ∧ bs.length = fs.length
  | _, _, .nil, _ => ⟨[], .nil, rfl, rfl⟩
  | _, _, .cons a r, h => by
    obtain ⟨bs, o, e, l⟩ := r.obs al fun f hf => h f (List.mem_cons_of_mem _ hf)
    refine ⟨true :: bs, .cons (a.ob (h _ List.mem_cons_self) al) o, ?_, by rw [List.length_cons, List.length_cons, l]⟩
    rw [List.all_cons, e]
    rfl
theorem IsP.pr {K : PySem.W.Frag} {H : Hp} {z : Str} {v : V} {fs : List Fc} (al : Alph z) (h : IsP K H v fs) (fo : ∀ f ∈ fs, FOk z f) (l : fs.length ≤ 100000) : PrB K H z v true := by
  obtain ⟨a, xs, rfl, hq, iF⟩ := h
  obtain ⟨bs, o, e, bl⟩ := iF.obs al fo
  rw [← e]
  exact .tup hq o (by rw [bl]; exact l)
section
variable {P : Program} {w : World} {K : PySem.W.Frag} {mg : Str → Option Value} {base : Heap}
structure DfPr (K : PySem.W.Frag) (mg : Str → Option Value) where
  p : Df K mg "is_product" sIsProduct ["alphabet", "thing"]
  f : Df K mg "is_factor" sIsFactor ["alphabet", "thing"]
  w : Df K mg "is_word" sIsWord ["alphabet", "thing"]
  a : Df K mg "is_ascending" sIsAscending ["letters"]
  ma : mg "all" = none
  mz : mg "zip" = none
  mi : mg "isinstance" = none
  ms : mg "str" = none
  mt : mg "tuple" = none
  ml : mg "len" = none
theorem scIf : FnScope ["alphabet", "thing", "kind", "letters"] ["alphabet", "thing"] (defScope sIsFactor) := ⟨rfl, rfl, rfl, by decide +kernel, rfl, by decide +kernel, by decide +kernel⟩
theorem ok_if (D : DfPr K mg) : FnOk P w K mg base CX0 2 D.f.f D.f.fd ["alphabet", "thing"] (spIf K) := by
  have Gw : FnOk P w K mg base CX0 1 D.w.f D.w.fd ["alphabet", "thing"] (spIw K) := ok_iw D.w D.ma D.mi D.ms
  have Ga : FnOk P w K mg base CX0 1 D.a.f D.a.fd ["letters"] spAsc := ok_asc D.a D.ma D.mz
  refine D.f.F.ok scIf (fun vs H Q E h => ?_) (fun cdv A outer s H vs Q E hr h => ?_)
  · obtain ⟨z, v, f, rfl, _⟩ := h
    rfl
  · obtain ⟨z, v, b, rfl, ob, k⟩ := h
    have sz : ∀ y : Str, y.length = (tl y).length := fun y => (Array.length_toList).symm
    have mt := D.mt
    have mi := D.mi
    have ml := D.ml
    refine ⟨_, (pss_cons (ps_if (pw_or (pt_not (pt_val (pe_callB call_isi (by rfl) mi (by decide +kernel) (pa_cons (pv 1) (pa_cons (pe_bltn (v := V.ty "tuple") (by rfl) mt (by decide +kernel : bootBuiltins "tuple" = some (.type "tuple")) rfl) pa_nil))))) (pw_or1 (pt_cmpR op_ne (pe_callB call_len_seq (by rfl) ml PySem.boot_len (pa_cons (pv 1) pa_nil)) pe_int (nomark _)))).pt (pss_one (ps_ret pe_bl)) pss_nil) (pss_cons (ps_asg (pv 1) (pg_tup rfl (pgs_cons (pg_name (i := 2) scIf.nd rfl (.inl rfl)) (pgs_cons (pg_name (i := 3) scIf.nd rfl (.inl rfl)) pgs_nil)))) (pss_cons (ps_if (pt_not (pt_val (pe_call Gw hr (by rfl) D.w.g D.w.F.kp D.w.b .nil pass0 (pa_cons (pv 0) (pa_cons (pv 3) pa_nil))))) (pss_one (ps_ret pe_bl)) pss_nil) (pss_cons (ps_if (pt_cmpR op_eq (pv 2) pe_str (nomark _)) (pss_one (ps_ret (pe_cmpR op_eq (pe_callB call_len_str (by rfl) ml PySem.boot_len (pa_cons (pv 3) pa_nil)) pe_int (nomark _)))) pss_nil) (pss_one (ps_ret (pe_and (pe_cmpR op_eq (pv 2) pe_str (nomark _)) (pe_and (pe_cmpR op_gt (pe_callB call_len_str (by rfl) ml PySem.boot_len (pa_cons (pv 3) pa_nil)) pe_int (nomark _)) (pe_one (pe_call Ga hr (by rfl) D.a.g D.a.F.kp D.a.b .nil pass0 (pa_cons (pv 3) pa_nil))))))))))), ?_⟩
    cases ob with
    | no h =>
      obtain ⟨t, ty, kt⟩ := h
      exact ⟨v, rfl, _, _, _, _, false, rfl, .ty "tuple", ty, kt, false, rfl, iteT (k _ (Same.refl _))⟩
    | @len a xs h n =>
      refine ⟨.ref a, rfl, _, _, _, _, true, rfl, .ty "tuple", sqT_ty h, tup_kit, true, rfl, iteF ?_⟩
      refine ⟨.ref a, rfl, a, _, rfl, .inr h, rfl, _, rfl, ?_⟩
      rw [show (!decide (V.int (xs.length : Int) = V.int 2)) = true by
        rw [decide_eq_false fun e => by
          have := V.int.inj e
          omega]
        rfl]
      exact iteT (k _ (Same.refl _))
    | @nos a kk l h n =>
      refine ⟨.ref a, rfl, _, _, _, _, true, rfl, .ty "tuple", sqT_ty h, tup_kit, true, rfl, iteF ?_⟩
      refine ⟨.ref a, rfl, a, _, rfl, .inr h, rfl, _, rfl, iteF ?_⟩
      refine ⟨.ref a, rfl, a, _, rfl, h, rfl, _, _, rfl, _, _, rfl, rfl, ?_⟩
      refine ⟨.str z, rfl, l, rfl, z, l, rfl, .inr ⟨n, fun H1 s1 => ?_⟩⟩
      exact ⟨_, rfl, iteT (k _ s1)⟩
    | @fac a kk x h sc xl =>
      refine ⟨.ref a, rfl, _, _, _, _, true, rfl, .ty "tuple", sqT_ty h, tup_kit, true, rfl, iteF ?_⟩
      refine ⟨.ref a, rfl, a, _, rfl, .inr h, rfl, _, rfl, iteF ?_⟩
      refine ⟨.ref a, rfl, a, _, rfl, h, rfl, _, _, rfl, _, _, rfl, rfl, ?_⟩
      refine ⟨.str z, rfl, .str x, rfl, z, .str x, rfl, .inl ⟨x, rfl, xl, fun H1 s1 => ?_⟩⟩
      unfold facB at k
      cases q1 : (tl x).all (fun c => decide (c ∈ tl z)) with
      | false =>
        rw [q1] at k
        exact ⟨_, rfl, iteT (k _ s1)⟩
      | true =>
        rw [q1, Bool.true_and] at k
        refine ⟨_, rfl, iteF ?_⟩
        refine ⟨_, rfl, sc _, _, rfl, ?_⟩
        have xsz : x.length ≤ sizeLine := by
          rw [sz, sizeLine_eq]
          omega
        by_cases q2 : decide (kk = V.str "opt") = true
        · rw [if_pos q2] at k
          rw [q2]
          refine iteT ?_
          refine ⟨.str x, rfl, x, rfl, xsz, rfl, ?_⟩
          have e : decide (V.int (x.length : Int) = V.int 1) = decide ((tl x).length = 1) := by
            rw [decide_eq_decide, sz]
            constructor
            · intro e
              have := V.int.inj e
              omega
            · intro e
              rw [e]
              rfl
          rw [e]
          exact k _ s1
        · rw [if_neg q2] at k
          rw [show decide (kk = V.str "opt") = false by simpa using q2]
          refine iteF ?_
          refine ⟨_, rfl, sc _, _, rfl, ?_⟩
          by_cases q3 : decide (kk = V.str "star") = true
          · rw [q3, Bool.true_and] at k
            rw [q3]
            refine iteT ?_
            refine ⟨.str x, rfl, x, rfl, xsz, _, _, rfl, rfl, _, rfl, ?_⟩
            have e : decide ((x.length : Int) > 0) = decide (0 < (tl x).length) := by
              rw [decide_eq_decide, sz]
              omega
            rw [e]
            by_cases q4 : decide (0 < (tl x).length) = true
            · rw [q4, Bool.true_and] at k
              rw [q4]
              refine iteT ?_
              exact ⟨.str x, rfl, x, rfl, xl, fun H2 s2 => k _ (s1.trans s2)⟩
            · rw [show decide (0 < (tl x).length) = false by simpa using q4] at k
              rw [show decide (0 < (tl x).length) = false by simpa using q4]
              exact iteF (k _ s1)
          · rw [show decide (kk = V.str "star") = false by simpa using q3] at k
            rw [show decide (kk = V.str "star") = false by simpa using q3]
            exact iteF (k _ s1)
theorem scIp : FnScope ["alphabet", "thing", "factor"] ["alphabet", "thing"] (defScope sIsProduct) := ⟨rfl, rfl, rfl, by decide +kernel, rfl, by decide +kernel, by decide +kernel⟩
theorem ok_ip (D : DfPr K mg) : FnOk P w K mg base CX0 3 D.p.f D.p.fd ["alphabet", "thing"] (spIp K) := by
  have Gf : FnOk P w K mg base CX0 2 D.f.f D.f.fd ["alphabet", "thing"] (spIf K) := ok_if D
  refine D.p.F.ok scIp (fun vs H Q E h => ?_) (fun cdv A outer s H vs Q E hr h => ?_)
  · obtain ⟨z, v, f, rfl, _⟩ := h
    rfl
  · obtain ⟨z, v, b, rfl, pr, k⟩ := h
    have mt := D.mt
    have mi := D.mi
    have ma := D.ma
    refine ⟨_, (pss_one (ps_ret (pe_and (pe_callB call_isi (by rfl) mi (by decide +kernel) (pa_cons (pv 1) (pa_cons (pe_bltn (v := V.ty "tuple") (by rfl) mt (by decide +kernel : bootBuiltins "tuple" = some (.type "tuple")) rfl) pa_nil))) (pe_one (pe_callB (cr_all rfl) (by rfl) ma (by decide +kernel) (pa_cons (pe_lc (own := [("factor", 2)]) (g := gName 2) rfl scIp.nd (pi_tup (pv 1)) (blkOk_by (N := ["alphabet", "thing", "factor"]) (sc := defScope sIsProduct) (by decide +kernel)) (fun _ _ _ _ _ => pg_name (i := 2) scIp.nd rfl (Or.inl rfl)) (fun _ _ _ _ _ => pts_nil) (fun _ _ _ _ _ => (pe_call Gf hr (by rfl) D.f.g D.f.F.kp D.f.b .nil pass0 (pa_cons (pv 0) (pa_cons (pv 2) pa_nil))))) pa_nil)))))), ?_⟩
    cases pr with
    | no h =>
      obtain ⟨t, ty, kt⟩ := h
      exact ⟨v, rfl, _, _, _, _, false, rfl, .ty "tuple", ty, kt, false, rfl, iteF (k _ (Same.refl _))⟩
    | @tup a xs bs hq o bl =>
      refine ⟨.ref a, rfl, _, _, _, _, true, rfl, .ty "tuple", sqT_ty hq, tup_kit, true, rfl, iteT ?_⟩
      refine ⟨.ref a, rfl, a, rfl, ⟨_, hq⟩, fun L hL => ?_⟩
      have sL := same_upd (o := .lst []) hL
      have xl := o.len
      refine lc_it (walk_tup (xs := xs)) (fun i H' => H' L = some (.lst ((bs.take i).map V.bl)) ∧ Same H H') ⟨upd_same, sL⟩ (fun _ _ _ ⟨_, sm⟩ => same_tup sm _ _ hq) ?_ ?_
      · rintro i v G G' hi ⟨gL, sm⟩ ⟨rfl, hv⟩
        obtain ⟨b, hb, ob⟩ := o.get i v hv
        refine ⟨rfl, yes ?_⟩
        refine ⟨.str z, rfl, v, rfl, z, v, b, rfl, ob.same sm, fun H2 s2 => ?_⟩
        refine ⟨_, s2 _ _ gL, ?_, ?_, fun b o e => (upd_ne (ne_of_none e hL)).trans ((sm.trans s2) _ _ e)⟩
        · rw [List.length_map, List.length_take, sizeLine_eq]
          omega
        · rw [upd_same, List.take_add_one, hb, List.map_append]
          rfl
      · rintro G ⟨gL, sm⟩
        refine ⟨L, _, rfl, SqL.of gL, ?_⟩
        rw [xl, List.take_length]
        exact k _ sm
end
end DW
/-! class Language: made, contains -/
namespace DW
open PySem PySem.Spec PyProof.Rows L2 TL
set_option autoImplicit false
def clsBody (s : Stmt) : List Stmt := match s with
  | .ClassDef _ _ _ b _ _ _ _ _ _ _ => b
  | _ => []
def clsS (i j : Nat) : Stmt := (clsBody (topS i)).getD j (.Pass ⟨0, 0, 0, 0⟩)
abbrev sLangInit : Stmt := clsS 34 0
abbrev sLangContains : Stmt := clsS 34 3
/-- a method as the top has made it -/
structure DfM (K : PySem.W.Frag) (C : Addr) (x q : Str) (st : Stmt) (ps : List Str) where
  f : Addr
  fd : FuncData
  F : FunD K x q (defArgs st) (defBody st) (defScope st) [] [] f fd
  b : Binds K fd ps []
/-- the class -/
structure DfC (K : PySem.W.Frag) (mg : Str → Option Value) where
  C : Addr
  g : mg "Language" = some (.ref C)
  cl : Cls K C
  nB : NoAttr K C "base"
  nM : NoAttr K C "maximal"
  i : DfM K C "__init__" "Language.__init__" sLangInit ["self", "alphabet", "products"]
  mkr : Mk K C i.f
  c : DfM K C "contains" "Language.contains" sLangContains ["self", "word"]
  mc : Meth K C "contains" c.f
structure DfLa (K : PySem.W.Frag) (mg : Str → Option Value) extends DfC K mg where
  al : Df K mg "is_alphabet" sIsAlphabet ["thing"]
  pr : DfPr K mg
  mx : DfMx K mg
  sp : Df K mg "subwords_product" sSubwordsProduct ["word"]
  me : mg "enumerate" = none
  mli : mg "list" = none
def flL (z : Str) (q : Addr) : List (Str × V) := putF "maximal" (.ref q) (putF "base" (.str z) [])
theorem flL_base (z : Str) (q : Addr) : (flL z q).lookup ("base" : Str) = some (V.str z) := by
  unfold flL
  rw [lookup_putF, if_neg (by decide), lookup_putF, if_pos rfl]
theorem flL_max (z : Str) (q : Addr) : (flL z q).lookup ("maximal" : Str) = some (V.ref q) := by
  unfold flL
  rw [lookup_putF, if_pos rfl]
theorem flL_no {m : Str} (z : Str) (q : Addr) (h1 : m ≠ "maximal") (h2 : m ≠ "base") : (flL z q).lookup m = none := by
  unfold flL
  rw [lookup_putF, if_neg h1, lookup_putF, if_neg h2]
  rfl
/-- a Language stands at p -/
structure LaAt (K : PySem.W.Frag) (C : Addr) (H : Hp) (p : Addr) (z : Str) (zs : List (List Fc)) : Prop where
  ob : ∃ dx q ys, H p = some (.ins C dx (flL z q)) ∧ H q = some (.lst ys) ∧ IsL K H ys zs
def spLi (K : PySem.W.Frag) (C : Addr) : Sp := fun vs H Q _ => ∃ (p dx a : Addr) (z : Str) (xs : List V) (ps : List (List Fc)), vs = [.ref p, .str z, .ref a] ∧ H p = some (.ins C dx []) ∧ H a = some (.lst xs) ∧ IsL K H xs ps ∧ Alph z ∧ ps.length ≤ 1000000 ∧ (∀ p ∈ ps, p.length ≤ 10000 ∧ ∀ f ∈ p, FOk z f) ∧
  ∀ H' zs, (∀ b o, H b = some o → b ≠ p → H' b = some o) → LaAt K C H' p z zs → MaxOf ps zs → (∃ dx q ys, H' p = some (.ins C dx (flL z q)) ∧ H' q = some (.lst ys) ∧ IsL K H' ys zs ∧ H q = none) → Q .non H'
section
variable {P : Program} {w : World} {K : PySem.W.Frag} {mg : Str → Option Value} {base : Heap}
theorem alphB_of {z : Str} (h : Alph z) : alphB (tl z) = true := by
  obtain ⟨h1, h2, h3, h4⟩ := h
  unfold alphB
  rw [decide_eq_true h2, decide_eq_true h3, ascB_of h1]
  simp only [Bool.true_and, Bool.and_true]
  refine List.all_eq_true.mpr fun c hc => ?_
  unfold lowB
  rw [decide_eq_true (h4 c hc).1, decide_eq_true (h4 c hc).2]
  rfl
theorem upd_ins {K : PySem.W.Frag} {H : Hp} {p C dx : Addr} {fs : List (Str × V)} {o : HO} (hp : H p = some (.ins C dx fs)) (b : Addr) (xs : List V) (h : SqT K H b xs) : SqT K (upd H p o) b xs := by
  rcases h with (h | ⟨v, h⟩) | h
  · exact .inl (.inl ((upd_ne (ne_of h hp (by intro z; cases z))).trans h))
  · exact .inl (.inr ⟨v, (upd_ne (ne_of h hp (by intro z; cases z))).trans h⟩)
  · exact .inr h
theorem lst_kit {K : PySem.W.Frag} : PySem.W.kitOne K (.type "list") (.type "list") = some true := kit_ty (by decide +kernel)
theorem scLi : FnScope ["self", "alphabet", "products", "index", "product"] ["self", "alphabet", "products"] (defScope sLangInit) := ⟨rfl, rfl, rfl, by decide +kernel, rfl, by decide +kernel, by decide +kernel⟩
theorem ok_li (D : DfLa K mg) : FnOk P w K mg base CX0 7 D.i.f D.i.fd ["self", "alphabet", "products"] (spLi K D.C) := by
  have Ga : FnOk P w K mg base CX0 2 D.al.f D.al.fd ["thing"] (spAlp K) := ok_alp D.al D.pr.a D.pr.ma D.pr.mz D.pr.mi D.pr.ms D.pr.ml D.mx.mm
  have Gp : FnOk P w K mg base CX0 3 D.pr.p.f D.pr.p.fd ["alphabet", "thing"] (spIp K) := ok_ip D.pr
  have Gm : FnOk P w K mg base CX0 6 D.mx.m.f D.mx.m.fd ["products"] (spMx K) := ok_mx D.mx
  refine D.i.F.ok scLi (fun vs H Q E h => ?_) (fun cdv A outer s H vs Q E hr h => ?_)
  · obtain ⟨p, dx, a, z, xs, ps, rfl, _⟩ := h
    rfl
  · obtain ⟨p, dx, a, z, xs, ps, rfl, hp, ha, iL, al, pl, pok, k⟩ := h
    have hr2 : Room 2 _ := hr.mono (by decide)
    have hr3 : Room 3 _ := hr.mono (by decide)
    have xl := iL.len
    refine ⟨_, PSs.nox (pss_cons (ps_if (pt_not (pt_val (pe_call Ga hr2 (by rfl) D.al.g D.al.F.kp D.al.b .nil pass0 (pa_cons (pv 1) pa_nil)))) (pss_one ps_never) pss_nil) (pss_cons (ps_if (pt_not (pt_val (pe_callB call_isiT (by rfl) D.pr.mi (by decide +kernel) (pa_cons (pv 2) (pa_cons (pe_tup (pa_cons (pe_bltn (v := V.ty "list") (by rfl) D.mli (by decide +kernel : bootBuiltins "list" = some (.type "list")) rfl) (pa_cons (pe_bltn (v := V.ty "tuple") (by rfl) D.pr.mt (by decide +kernel : bootBuiltins "tuple" = some (.type "tuple")) rfl) pa_nil))) pa_nil))))) (pss_one ps_never) pss_nil) (pss_cons (ps_for PassesOwn.never rfl (pi_enum (by rfl) D.me (pa_cons (pv 2) pa_nil)) (pg_tup rfl (pgs_cons (pg_name (i := 3) scLi.nd rfl (.inl rfl)) (pgs_cons (pg_name (i := 4) scLi.nd rfl (.inl rfl)) pgs_nil))) (pss_one (ps_if (pt_not (pt_val (pe_call Gp hr3 (by rfl) D.pr.p.g D.pr.p.F.kp D.pr.p.b .nil pass0 (pa_cons (pv 1) (pa_cons (pv 4) pa_nil))))) (pss_one ps_never) pss_nil))) (pss_cons (ps_fld (pv 0) (pv 1) rfl) (pss_one (ps_fld (pv 0) (pe_call Gm hr (by rfl) D.mx.m.g D.mx.m.F.kp D.mx.m.b .nil pass0 (pa_cons (pv 2) pa_nil)) rfl)))))), ?_⟩
    have zl : (tl z).length ≤ 100000 := by
      have := al.2.2.1
      omega
    refine ⟨.str z, rfl, .str z, rfl, .inl ⟨z, rfl, zl, fun H1 s1 => ⟨_, rfl, ?_⟩⟩⟩
    rw [alphB_of al]
    refine iteF ?_
    refine ⟨.ref a, rfl, by rw [sizeLine_eq]; decide, fun T0 hT0 => ?_⟩
    have sT := same_upd (o := .tup [V.ty "list", V.ty "tuple"]) hT0
    have sH := s1.trans sT
    refine ⟨.ref a, T0, _, .type "list", [.type "list", .type "tuple"], true, rfl, upd_same, .cons (.ty _) (.cons (.ty _) .nil), .base (.lst (sH _ _ ha)), ?_, true, rfl, iteF ?_⟩
    · unfold PySem.W.kitAny
      rw [lst_kit]
    refine ⟨.ref a, rfl, a, xs, rfl, SqL.of (sH _ _ ha), for_it (walk_enum (xs := xs)) (fun i σ G => ∃ y3 y4, σ = [some (.ref p), some (.str z), some (.ref a), y3, y4] ∧ Same H G) ⟨_, _, rfl, sH⟩ (fun _ _ _ _ ⟨_, _, _, sm⟩ => SqL.of (sm _ _ ha)) ?_ ?_⟩
    · rintro i x σ G G' hi ⟨y3, y4, rfl, sm⟩ ⟨T, c, y, rfl, hT, rfl, hc, hy⟩
      have s2 := sm.trans (same_upd (o := .tup [c, y]) hT)
      obtain ⟨q, hq, isq⟩ := iL.get i y hy
      have qm : q ∈ ps := List.mem_of_getElem? hq
      obtain ⟨q1, q2⟩ := pok q qm
      refine ⟨T, [c, y], rfl, SqT.of upd_same, rfl, _, _, rfl, _, _, rfl, rfl, ?_⟩
      exact ⟨.str z, rfl, y, rfl, z, y, true, rfl, IsP.pr al (isq.mono (same_tup s2)) q2 (by omega), fun H2 s3 => ⟨_, rfl, iteF ⟨_, _, rfl, s2.trans s3⟩⟩⟩
    · rintro σ G ⟨y3, y4, rfl, sm⟩
      have hpG := sm _ _ hp
      have npa : a ≠ p := ne_of ha hp (by intro z; cases z)
      refine ⟨.str z, rfl, .ref p, rfl, p, D.C, dx, [], rfl, hpG, D.cl, D.nB, by decide, ?_⟩
      refine ⟨.ref a, rfl, a, xs, ps, rfl, SqL.of ((upd_ne npa).trans (sm _ _ ha)), (iL.mono (same_tup sm)).mono (fun b xs h => upd_ins hpG b xs h), pl, fun q hq => ⟨(pok q hq).1, fun f hf => fok_low al ((pok q hq).2 f hf)⟩, fun H' q ys zs s2 nq hq iZ mo => ?_⟩
      have hp2 := s2 _ _ (upd_same : (upd G p (.ins D.C dx (putF "base" (V.str z) []))) p = _)
      have nqp : q ≠ p := fun e => by
        rw [e, upd_same] at nq
        cases nq
      refine ⟨.ref p, rfl, p, D.C, dx, _, rfl, hp2, D.cl, D.nM, (by show 1 < 1000; decide), ?_⟩
      have fq : H q = none := by
        rw [upd_ne nqp] at nq
        exact sm.free nq
      refine k _ zs (fun b o hb nb => ?_) ⟨dx, q, ys, upd_same, (upd_ne nqp).trans hq, iZ.mono (fun b xs h => upd_ins hp2 b xs h)⟩ mo ⟨dx, q, ys, upd_same, (upd_ne nqp).trans hq, iZ.mono (fun b xs h => upd_ins hp2 b xs h), fq⟩
      exact (upd_ne nb).trans (s2 _ _ ((upd_ne nb).trans (sm _ _ hb)))
end
end DW
/-! class Language: contains, and what it says -/
namespace DW
open PySem PySem.Spec PyProof.Rows L2 TL
set_option autoImplicit false
def hasW (zs : List (List Fc)) (u : List Nat) : Bool := zs.any fun q => inc q (ones u)
def spLc (K : PySem.W.Frag) (C : Addr) : Sp := fun vs H Q _ => ∃ (p : Addr) (x z : Str) (zs : List (List Fc)), vs = [.ref p, .str x] ∧ LaAt K C H p z zs ∧ (∀ q ∈ zs, ∀ f ∈ q, Low f) ∧ (∀ c ∈ tl x, c < 128) ∧ (tl x).length ≤ 100000 ∧ ∀ H', Same H H' → Q (.bl (hasW zs (tl x))) H'
section
variable {P : Program} {w : World} {K : PySem.W.Frag} {mg : Str → Option Value} {base : Heap}
theorem LaAt.same {C : Addr} {H H' : Hp} {p : Addr} {z : Str} {zs : List (List Fc)} (L : LaAt K C H p z zs) (s : Same H H') : LaAt K C H' p z zs := by
  obtain ⟨dx, q, ys, h1, h2, h3⟩ := L
  exact ⟨dx, q, ys, s _ _ h1, s _ _ h2, h3.mono (same_tup s)⟩
theorem LaAt.kp {C : Addr} {H H' : Hp} {t p : Addr} {z : Str} {zs : List (List Fc)} (L : LaAt K C H p z zs) (s : Kp t H H') : LaAt K C H' p z zs := by
  obtain ⟨dx, q, ys, h1, h2, h3⟩ := L
  exact ⟨dx, q, ys, s.at h1 (fun _ z => by cases z), s.at h2 (fun _ z => by cases z), h3.mono (kp_tup s)⟩
theorem LaAt.put {C : Addr} {H : Hp} {p b : Addr} {o u : HO} {z : Str} {zs : List (List Fc)} (L : LaAt K C H p z zs) (hb : H b = some u) (n1 : ∀ C dx fs, u ≠ .ins C dx fs) (n2 : ∀ dx q ys, H p = some (.ins C dx (flL z q)) → H q = some (.lst ys) → b ≠ q) (m : ∀ c xs, SqT K H c xs → SqT K (upd H b o) c xs) : LaAt K C (upd H b o) p z zs := by
  obtain ⟨dx, q, ys, h1, h2, h3⟩ := L
  exact ⟨dx, q, ys, (upd_ne (ne_of h1 hb (fun z => n1 _ _ _ z.symm))).trans h1, (upd_ne (n2 dx q ys h1 h2).symm).trans h2, h3.mono m⟩
theorem scLc : FnScope ["self", "word"] ["self", "word"] (defScope sLangContains) := ⟨rfl, rfl, rfl, by decide +kernel, rfl, by decide +kernel, by decide +kernel⟩
theorem ok_lc (D : DfLa K mg) : FnOk P w K mg base CX0 6 D.c.f D.c.fd ["self", "word"] (spLc K D.C) := by
  have Gs : FnOk P w K mg base CX0 1 D.sp.f D.sp.fd ["word"] (spSubw K) := ok_subw D.sp D.pr.mt
  have Gi : FnOk P w K mg base CX0 5 D.mx.i.f D.mx.i.fd ["product", "products"] (spIn K) := ok_in D.mx.i D.mx.incl D.pr.ma D.pr.ml
  refine D.c.F.ok scLc (fun vs H Q E h => ?_) (fun cdv A outer s H vs Q E hr h => ?_)
  · obtain ⟨p, x, z, zs, rfl, _⟩ := h
    rfl
  · obtain ⟨p, x, z, zs, rfl, ⟨dx, q, ys, h1, h2, h3⟩, zlow, xlow, xl, k⟩ := h
    have hr1 : Room 1 _ := hr.mono (by decide)
    refine ⟨_, (pss_one (ps_ret (pe_call Gi hr (by rfl) D.mx.i.g D.mx.i.F.kp D.mx.i.b .nil pass0 (pa_cons (pe_call Gs hr1 (by rfl) D.sp.g D.sp.F.kp D.sp.b .nil pass0 (pa_cons (pv 1) pa_nil)) (pa_cons (pe_fld (pv 0) rfl) pa_nil))))), ?_⟩
    refine ⟨.str x, rfl, x, rfl, xl, fun H1 v s1 isv => ?_⟩
    exact ⟨.ref p, rfl, p, D.C, dx, _, _, rfl, s1 _ _ h1, D.cl, D.nM, flL_max _ _, v, q, ones (tl x), ys, zs, rfl, isv, SqL.of (s1 _ _ h2), h3.mono (same_tup s1), low_ones xlow, zlow, fun H2 s2 => k _ (s1.trans s2)⟩
/-! ### what contains says -/
theorem pick_sup : ∀ (l : List Gp) (M : List (List Fc)) (r : List Fc), (r ∈ M ∨ (∃ m ∈ M, inc m r = true) ∨ ∃ g ∈ l, r ∈ g.2) → r ∈ l.foldl keepG M ∨ ∃ m ∈ l.foldl keepG M, inc m r = true
  | [], M, r, h => by
    rcases h with q | q | ⟨g, hg, _⟩
    · exact .inl q
    · exact .inr q
    · exact (nomatch hg)
  | g :: l, M, r, h => by
    refine pick_sup l _ r ?_
    rcases h with q | ⟨m, hm, hi⟩ | ⟨g', hg, hr⟩
    · exact .inl (List.mem_append_left _ q)
    · exact .inr (.inl ⟨m, List.mem_append_left _ hm, hi⟩)
    · rcases List.mem_cons.mp hg with e | e
      · subst e
        cases c : M.any fun m => inc m r with
        | false => exact .inl (List.mem_append_right _ (List.mem_filter.mpr ⟨hr, by rw [c]; rfl⟩))
        | true =>
          obtain ⟨m, hm, hi⟩ := List.any_eq_true.mp c
          exact .inr (.inl ⟨m, List.mem_append_left _ hm, hi⟩)
      · exact .inr (.inr ⟨g', e, hr⟩)
theorem MaxOf.sub {ps zs : List (List Fc)} (M : MaxOf ps zs) : ∀ q ∈ zs, ∃ p ∈ ps, q = red p := fun q hq => by
  obtain ⟨Gs, gr, rfl⟩ := M
  rcases pick_sub _ _ q (List.mem_mergeSort.mp hq) with e | ⟨g, h1, h2⟩
  · exact (nomatch e)
  · exact (gr.mem q).mp ⟨g, List.mem_mergeSort.mp h1, h2⟩
theorem MaxOf.sup {ps zs : List (List Fc)} (M : MaxOf ps zs) : ∀ p ∈ ps, red p ∈ zs ∨ ∃ m ∈ zs, inc m (red p) = true := fun p hp => by
  obtain ⟨Gs, gr, rfl⟩ := M
  obtain ⟨g, h1, h2⟩ := (gr.mem (red p)).mpr ⟨p, hp, rfl⟩
  rcases pick_sup (Gs.mergeSort leK) [] (red p) (.inr (.inr ⟨g, List.mem_mergeSort.mpr h1, h2⟩)) with q | ⟨m, hm, hi⟩
  · exact .inl (List.mem_mergeSort.mpr q)
  · exact .inr ⟨m, List.mem_mergeSort.mpr hm, hi⟩
theorem red_w1 {p : List Fc} (h : W1 p) : W1 (red p) := fun f hf => h f (red_mem hf)
theorem MaxOf.has {ps zs : List (List Fc)} (M : MaxOf ps zs) (wp : ∀ p ∈ ps, W1 p) (u : List Nat) : hasW zs u = true ↔ ∃ p ∈ ps, Lg p u := by
  unfold hasW
  rw [List.any_eq_true]
  constructor
  · rintro ⟨q, hq, hi⟩
    obtain ⟨p, hp, rfl⟩ := M.sub q hq
    exact ⟨p, hp, (red_lg p u).mpr ((acc_iff (red_w1 (wp p hp)) u).mp hi)⟩
  · rintro ⟨p, hp, hl⟩
    have l1 : Lg (red p) u := (red_lg p u).mp hl
    rcases M.sup p hp with q | ⟨m, hm, hi⟩
    · exact ⟨_, q, (acc_iff (red_w1 (wp p hp)) u).mpr l1⟩
    · obtain ⟨p', hp', rfl⟩ := M.sub m hm
      exact ⟨_, hm, (acc_iff (red_w1 (wp p' hp')) u).mpr (inc_sound _ _ hi u l1)⟩
theorem MaxOf.low {ps zs : List (List Fc)} (M : MaxOf ps zs) (h : ∀ p ∈ ps, ∀ f ∈ p, Low f) : ∀ q ∈ zs, ∀ f ∈ q, Low f := fun q hq f hf => by
  obtain ⟨p, hp, rfl⟩ := M.sub q hq
  exact h p hp f (red_mem hf)
/-- fewer letters: still there -/
theorem MaxOf.less {ps zs : List (List Fc)} (M : MaxOf ps zs) (wp : ∀ p ∈ ps, W1 p) {u v : List Nat} (s : v.Sublist u) (h : hasW zs u = true) : hasW zs v = true := by
  obtain ⟨p, hp, hl⟩ := (M.has wp u).mp h
  exact (M.has wp v).mpr ⟨p, hp, hl.sub s⟩
end
end DW
/-! towards one list for each language: the product of all words -/
namespace DW
open PySem PySem.Spec PyProof.Rows L2 TL
set_option autoImplicit false
theorem Apart.lone {s : Fc} : ∀ {l : List Fc}, Apart l → s ∈ l → (∀ f ∈ l, sw s f = true) → l = [s]
  | [], _, h, _ => (nomatch h)
  | [x], _, h, _ => by rw [List.mem_singleton.mp h]
  | x :: y :: r, ha, h, hs => by
    rcases List.mem_cons.mp h with e | e
    · subst e
      have h1 := hs y (by simp)
      rw [ha.1] at h1
      cases h1
    · have ih := Apart.lone (l := y :: r) ha.2.2 e fun f hf => hs f (List.mem_cons_of_mem _ hf)
      have ey : y = s := (List.cons.inj ih).1
      have h1 := hs x (by simp)
      rw [← ey, ha.2.1] at h1
      cases h1
theorem sw_all {z : Str} {f : Fc} (h : FOk z f) : sw (true, z) f = true := sw_of rfl fun c hc => h.2.1.subset hc
theorem red_lone {z : Str} {fs : List Fc} (ok : ∀ f ∈ fs, FOk z f) (h : (true, z) ∈ red fs) : red fs = [(true, z)] := by
  have hm : (true, z) ∈ fs.foldl stp [] := List.mem_reverse.mp h
  have e := Apart.lone (fold_apart fs [] trivial) hm fun f hf => sw_all (ok f (red_mem (List.mem_reverse.mpr hf)))
  unfold red
  rw [e]
  rfl
theorem star_of {z : Str} {f : Fc} (h : FOk z f) (k : f.1 = true) (l : (ls f).length = (tl z).length) : f = (true, z) := by
  have e : tl f.2 = tl z := h.2.1.eq_of_length l
  obtain ⟨a, b⟩ := f
  simp only at k e
  rw [k, tl_inj e]
/-- a product that takes in the star of the alphabet has it as a factor -/
theorem inc_star {z : Str} : ∀ {q : List Fc}, inc q [(true, z)] = true → ∃ f ∈ q, cov f (true, z) = true
  | [], h => by simp [inc] at h
  | g :: q, h => by
    by_cases c : cov g (true, z) = true
    · exact ⟨g, List.mem_cons_self, c⟩
    · rw [inc, if_neg c] at h
      obtain ⟨f, hf, hc⟩ := inc_star (q := q) h
      exact ⟨f, List.mem_cons_of_mem _ hf, hc⟩
theorem cov_star {z : Str} {f : Fc} (ok : FOk z f) (al : Alph z) (h : cov f (true, z) = true) : f = (true, z) := by
  unfold cov at h
  rcases Bool.or_eq_true_iff.mp h with e | e
  · exact of_decide_eq_true e
  · have nd : (tl z).Nodup := al.1.imp fun h => by omega
    refine star_of ok (sw_star e) (Nat.le_antisymm ok.2.1.length_le ?_)
    exact nd.length_le_of_subset fun c hc => sw_sub e c hc
/-- a product that has all words over the alphabet is reduced to its star -/
theorem red_full {z : Str} {p : List Fc} (ok : ∀ f ∈ p, FOk z f) (al : Alph z) (h : inc (red p) [(true, z)] = true) : red p = [(true, z)] := by
  obtain ⟨f, hf, hc⟩ := inc_star (z := z) h
  have e := cov_star (ok f (red_mem hf)) al hc
  rw [e] at hf
  exact red_lone ok hf
/-! ### sizes grow with inclusion -/
def cz (k : Int) (r : List Fc) : Nat := (szs r).count k
theorem cz_app (k : Int) (a b : List Fc) : cz k (a ++ b) = cz k a + cz k b := by
  unfold cz szs
  rw [List.map_append, List.count_append]
theorem cz_nil (k : Int) : cz k [] = 0 := rfl
def sz1 (f : Fc) : Int := if f.1 = true then ((ls f).length : Int) else 0
theorem cz_one (k : Int) (f : Fc) : cz k [f] = if sz1 f = k then 1 else 0 := by
  show List.count k [sz1 f] = _
  rw [List.count_singleton]
  by_cases e : sz1 f = k
  · rw [if_pos e, e]; simp
  · rw [if_neg e]; simp [e]
def Lx (r q : List Fc) : Prop := cz 3 r < cz 3 q ∨ (cz 3 r = cz 3 q ∧ (cz 2 r < cz 2 q ∨ (cz 2 r = cz 2 q ∧ (cz 1 r < cz 1 q ∨ (cz 1 r = cz 1 q ∧ cz 0 r < cz 0 q)))))
theorem Lx.app {a b c d : List Fc} (h : Lx a b) (k : c = d ∨ Lx c d) : Lx (a ++ c) (b ++ d) := by
  unfold Lx at *
  simp only [cz_app]
  rcases k with e | k
  · subst e
    omega
  · omega
theorem Lx.app2 {a c d : List Fc} (k : Lx c d) : Lx (a ++ c) (a ++ d) := by
  unfold Lx at *
  simp only [cz_app]
  omega
theorem Apart.tw (p : Fc → Bool) : ∀ {st : List Fc}, Apart st → Apart (st.takeWhile p)
  | [], _ => trivial
  | [g], _ => by
    rw [List.takeWhile_cons]
    split <;> trivial
  | g :: h :: st, ha => by
    have ih := Apart.tw p ha.tail
    rw [List.takeWhile_cons]
    split
    · rw [List.takeWhile_cons] at ih ⊢
      split at ih
      · rename_i q
        rw [if_pos q]
        exact ⟨ha.1, ha.2.1, ih⟩
      · rename_i q
        rw [if_neg q]
        trivial
    · trivial
theorem inc_run {g : Fc} {q : List Fc} (k : g.1 = true) : ∀ r : List Fc, inc (g :: q) r = inc q (r.dropWhile (cov g)) 
  | [] => by
    rw [List.dropWhile_nil]
    simp [inc]
  | f :: r => by
    rw [List.dropWhile_cons]
    by_cases c : cov g f = true
    · rw [inc, if_pos c, if_pos k, if_pos c]
      exact inc_run k r
    · rw [inc, if_neg c, if_neg c]
theorem sz1_le {z : Str} {f : Fc} (al : Alph z) (h : FOk z f) : 0 ≤ sz1 f ∧ sz1 f ≤ 3 := by
  have := fok_len al h
  unfold sz1
  split
  · omega
  · omega
theorem cz_zero {k : Int} : ∀ {r : List Fc}, (∀ f ∈ r, sz1 f ≠ k) → cz k r = 0
  | [], _ => rfl
  | f :: r, h => by
    have e := cz_app k [f] r
    rw [cz_one, if_neg (h f List.mem_cons_self), cz_zero fun g hg => h g (List.mem_cons_of_mem _ hg)] at e
    exact e
theorem Lx.nil {z : Str} (al : Alph z) {g : Fc} {q : List Fc} (h : FOk z g) : Lx [] (g :: q) := by
  have e : ∀ k, cz k (g :: q) = (if sz1 g = k then 1 else 0) + cz k q := fun k => by
    rw [← cz_one]
    exact cz_app k [g] q
  have s := sz1_le al h
  unfold Lx
  rw [e, e, e, e, cz_nil, cz_nil, cz_nil, cz_nil]
  have : sz1 g = 0 ∨ sz1 g = 1 ∨ sz1 g = 2 ∨ sz1 g = 3 := by omega
  rcases this with w | w | w | w <;> rw [w] <;> simp <;> omega
theorem asc_sub : ∀ (m l : List Nat), l.Pairwise (· < ·) → m.Pairwise (· < ·) → (∀ c ∈ l, c ∈ m) → l.Sublist m
  | [], [], _, _, _ => .slnil
  | [], a :: l, _, _, h => (nomatch h a List.mem_cons_self)
  | b :: m, [], _, _, _ => List.nil_sublist _
  | b :: m, a :: l, pl, pm, h => by
    have pl' := List.pairwise_cons.mp pl
    have pm' := List.pairwise_cons.mp pm
    by_cases e : a = b
    · subst e
      refine (asc_sub m l pl'.2 pm'.2 fun c hc => ?_).cons_cons a
      rcases List.mem_cons.mp (h c (List.mem_cons_of_mem _ hc)) with q | q
      · have := pl'.1 c hc
        omega
      · exact q
    · refine (asc_sub m (a :: l) pl pm'.2 fun c hc => ?_).cons b
      have am : a ∈ m := (List.mem_cons.mp (h a List.mem_cons_self)).resolve_left e
      have ab := pm'.1 a am
      rcases List.mem_cons.mp (h c hc) with q | q
      · rcases List.mem_cons.mp hc with w | w
        · exact absurd (w.symm.trans q) e
        · have := pl'.1 c w
          omega
      · exact q
theorem Lx.run {z : Str} (al : Alph z) {g : Fc} {run : List Fc} (hg : FOk z g) (k : g.1 = true) (ok : ∀ f ∈ run, FOk z f) (h : ∀ f ∈ run, sw g f = true) (n : g ∉ run) : Lx run [g] := by
  have less : ∀ f ∈ run, sz1 f < sz1 g := fun f hf => by
    have kg : sz1 g = ((ls g).length : Int) := by unfold sz1; rw [if_pos k]
    have g1 : 1 ≤ (ls g).length := by
      have := hg.1
      rcases e : tl g.2 with _ | ⟨x, y⟩
      · exact absurd e this
      · show 1 ≤ (tl g.2).length
        rw [e]
        simp
    rw [kg]
    unfold sz1
    split
    · rename_i kf
      have pf : (tl f.2).Pairwise (· < ·) := List.Pairwise.sublist (ok f hf).2.1 al.1
      have pg : (tl g.2).Pairwise (· < ·) := List.Pairwise.sublist hg.2.1 al.1
      have sub : (tl f.2).Sublist (tl g.2) := asc_sub _ _ pf pg (sw_sub (h f hf))
      have le : (ls f).length ≤ (ls g).length := sub.length_le
      rcases Nat.lt_or_eq_of_le le with q | q
      · omega
      · have e2 : f.2 = g.2 := tl_inj (sub.eq_of_length q)
        have e1 : f = g := by
          obtain ⟨a, b⟩ := f
          obtain ⟨c, d⟩ := g
          simp only at e2 kf k
          rw [e2, kf, k]
        rw [e1] at hf
        exact absurd hf n
    · omega
  have s := sz1_le al hg
  have e : ∀ j, cz j [g] = if sz1 g = j then 1 else 0 := fun j => cz_one j g
  have z0 : ∀ j, sz1 g ≤ j → cz j run = 0 := fun j hj => cz_zero fun f hf w => by have := less f hf; omega
  have : sz1 g = 0 ∨ sz1 g = 1 ∨ sz1 g = 2 ∨ sz1 g = 3 := by omega
  unfold Lx
  rw [e, e, e, e]
  rcases this with w | w | w | w
  · rw [z0 3 (by omega), z0 2 (by omega), z0 1 (by omega), z0 0 (by omega), w]; simp
  · rw [z0 3 (by omega), z0 2 (by omega), z0 1 (by omega), w]; simp
  · rw [z0 3 (by omega), z0 2 (by omega), w]; simp
  · rw [z0 3 (by omega), w]; simp
theorem mem_tw {p : Fc → Bool} {f : Fc} : ∀ {l : List Fc}, f ∈ l.takeWhile p → p f = true
  | [], h => (nomatch h)
  | x :: l, h => by
    rw [List.takeWhile_cons] at h
    split at h
    · rename_i q
      rcases List.mem_cons.mp h with e | e
      · rw [e]; exact q
      · exact mem_tw e
    · exact (nomatch h)
theorem inc_size {z : Str} (al : Alph z) : ∀ (q r : List Fc), (∀ f ∈ q, FOk z f) → (∀ f ∈ r, FOk z f) → Apart r → inc q r = true → r = q ∨ Lx r q
  | [], [], _, _, _, _ => .inl rfl
  | [], f :: r, _, _, _, h => by simp [inc] at h
  | g :: q, r, oq, or, ap, h => by
    have oq' : ∀ f ∈ q, FOk z f := fun f hf => oq f (List.mem_cons_of_mem _ hf)
    have og := oq g List.mem_cons_self
    by_cases k : g.1 = true
    · rw [inc_run k] at h
      have hr : r.takeWhile (cov g) ++ r.dropWhile (cov g) = r := List.takeWhile_append_dropWhile
      have mt : ∀ f ∈ r.takeWhile (cov g), f ∈ r := fun f hf => by rw [← hr]; exact List.mem_append_left _ hf
      have md : ∀ f ∈ r.dropWhile (cov g), f ∈ r := fun f hf => by rw [← hr]; exact List.mem_append_right _ hf
      have swt : ∀ f ∈ r.takeWhile (cov g), sw g f = true := fun f hf => by
        have c : cov g f = true := mem_tw hf
        rcases Bool.or_eq_true_iff.mp c with e | e
        · rw [← of_decide_eq_true e]
          exact sw_of k fun c hc => hc
        · exact e
      have ih := inc_size al q _ oq' (fun f hf => or f (md f hf)) (ap.dw _) h
      by_cases m : g ∈ r.takeWhile (cov g)
      · have e := Apart.lone (ap.tw (cov g)) m swt
        rw [e] at hr
        rcases ih with i | i
        · rw [i] at hr
          exact .inl hr.symm
        · rw [← hr]
          exact .inr (Lx.app2 (a := [g]) i)
      · have l := Lx.run al og k (fun f hf => or f (mt f hf)) swt m
        rw [← hr]
        exact .inr (l.app (b := [g]) ih)
    · have lg : Lx [] [g] := Lx.nil al og
      match r, or, ap, h with
      | [], _, _, _ => exact .inr (Lx.nil al og)
      | f :: p, or, ap, h =>
        by_cases c : cov g f = true
        · have e : g = f := by
            rcases Bool.or_eq_true_iff.mp c with e | e
            · exact of_decide_eq_true e
            · exact absurd (sw_star e) k
          subst e
          rw [inc, if_pos c, if_neg k] at h
          rcases inc_size al q p oq' (fun f hf => or f (List.mem_cons_of_mem _ hf)) ap.tail h with i | i
          · exact .inl (by rw [i])
          · exact .inr (Lx.app2 (a := [g]) i)
        · rw [inc, if_neg c] at h
          exact .inr (lg.app (inc_size al q (f :: p) oq' or ap h))
/-! ### one list: no product of it is inside another one -/
theorem apart_snoc {x : Fc} : ∀ {l : List Fc}, Apart l → (∀ y, l.getLast? = some y → sw y x = false ∧ sw x y = false) → Apart (l ++ [x])
  | [], _, _ => trivial
  | [f], _, h => ⟨(h f rfl).1, (h f rfl).2, trivial⟩
  | f :: g :: r, ha, h => ⟨ha.1, ha.2.1, apart_snoc (l := g :: r) ha.2.2 fun y hy => h y (by rw [List.getLast?_cons_cons]; exact hy)⟩
theorem Apart.rev : ∀ {l : List Fc}, Apart l → Apart l.reverse
  | [], _ => trivial
  | f :: r, ha => by
    rw [List.reverse_cons]
    refine apart_snoc ha.tail.rev fun y hy => ?_
    rw [List.getLast?_reverse] at hy
    cases r with
    | nil => cases hy
    | cons g r =>
      cases hy
      exact ⟨ha.2.1, ha.1⟩
theorem red_apart (fs : List Fc) : Apart (red fs) := (fold_apart fs [] trivial).rev
theorem Lx.lt {r q : List Fc} (h : Lx r q) : sizeT r < sizeT q := by
  unfold Lx cz at h
  unfold sizeT
  rw [List.cons_lt_cons_iff, List.cons_lt_cons_iff, List.cons_lt_cons_iff, List.cons_lt_cons_iff]
  omega
theorem leK_eq (a b : Gp) : leK a b = !decide (a.1 < b.1) := by
  show PySem.W.dataLe true (fun g : Gp => (numKey g.1).data) a b = _
  rw [PySem.W.dataLe_eq]
  simp only [cond_true]
  rw [data_num, data_num]
  exact congrArg _ (PySem.W.dataLt_ints a.1 b.1)
theorem leK_sorted (Gs : List Gp) : (Gs.mergeSort leK).Pairwise fun a b => ¬ a.1 < b.1 := by
  have T : PySem.W.TotalLe leK := PySem.W.sortLe_total _ true _
  have p := List.pairwise_mergeSort (le := leK) (fun a b c h1 h2 => T.trans a b c h1 h2) (fun a b => Bool.or_eq_true_iff.mpr (T.total a b)) Gs
  refine p.imp fun h => ?_
  rw [leK_eq] at h
  simpa using h
structure Rz (z : Str) (r : List Fc) : Prop where
  ok : ∀ f ∈ r, FOk z f
  ap : Apart r
def Anti (M : List (List Fc)) : Prop := ∀ a ∈ M, ∀ b ∈ M, inc a b = true → b = a
theorem Rz.self {z : Str} {r : List Fc} (h : Rz z r) : inc r r = true := (inc_iff (fok_w1 h.ok) (fok_w1 h.ok)).mpr (Lg.unf _ r fun f hf => (fok_w1 h.ok f hf).2)
theorem pick_anti {z : Str} (al : Alph z) : ∀ (l : List Gp) (M : List (List Fc)), (∀ g ∈ l, ∀ r ∈ g.2, Rz z r ∧ sizeT r = g.1) → (∀ g ∈ l, g.2.Nodup) → (l.Pairwise fun a b => ¬ a.1 < b.1) → (∀ m ∈ M, Rz z m) → Anti M → M.Nodup → (∀ m ∈ M, ∀ g ∈ l, ¬ sizeT m < g.1) → Anti (l.foldl keepG M) ∧ (l.foldl keepG M).Nodup
  | [], M, _, _, _, _, hA, hN, _ => ⟨hA, hN⟩
  | g :: l, M, hr, hn, hp, hm, hA, hN, hb => by
    have hp' := List.pairwise_cons.mp hp
    have fl : ∀ r ∈ g.2.filter (fun r => !(M.any fun m => inc m r)), Rz z r ∧ sizeT r = g.1 ∧ ∀ m ∈ M, inc m r = false := fun r h => by
      obtain ⟨h1, h2⟩ := List.mem_filter.mp h
      obtain ⟨h3, h4⟩ := hr g List.mem_cons_self r h1
      refine ⟨h3, h4, fun m hm => ?_⟩
      cases c : inc m r with
      | false => rfl
      | true =>
        have : (M.any fun m => inc m r) = true := List.any_eq_true.mpr ⟨m, hm, c⟩
        rw [this] at h2
        cases h2
    have irr : ∀ x : List Int, ¬ x < x := fun x => List.lt_irrefl x
    refine pick_anti al l (keepG M g) (fun g' hg' => hr g' (List.mem_cons_of_mem _ hg')) (fun g' hg' => hn g' (List.mem_cons_of_mem _ hg')) hp'.2 ?_ ?_ ?_ ?_
    · intro m h
      rcases List.mem_append.mp h with q | q
      · exact hm m q
      · exact (fl m q).1
    · intro a ha b hb' hi
      rcases List.mem_append.mp ha with q | q
      · rcases List.mem_append.mp hb' with w | w
        · exact hA a q b w hi
        · have := (fl b w).2.2 a q
          rw [hi] at this
          cases this
      · obtain ⟨ra, sa, _⟩ := fl a q
        rcases List.mem_append.mp hb' with w | w
        · rcases inc_size al a b ra.ok (hm b w).ok (hm b w).ap hi with e | e
          · exact e
          · have := e.lt
            rw [sa] at this
            exact absurd this (hb b w g List.mem_cons_self)
        · obtain ⟨rb, sb, _⟩ := fl b w
          rcases inc_size al a b ra.ok rb.ok rb.ap hi with e | e
          · exact e
          · have := e.lt
            rw [sa, sb] at this
            exact absurd this (irr _)
    · refine List.nodup_append.mpr ⟨hN, (hn g List.mem_cons_self).filter _, fun a ha b hb' e => ?_⟩
      have := (fl b hb').2.2 a ha
      rw [e, (fl b hb').1.self] at this
      cases this
    · intro m h g' hg'
      rcases List.mem_append.mp h with q | q
      · exact hb m q g' (List.mem_cons_of_mem _ hg')
      · rw [(fl m q).2.1]
        exact hp'.1 g' hg'
theorem MaxOf.anti {z : Str} (al : Alph z) {ps zs : List (List Fc)} (M : MaxOf ps zs) (ok : ∀ p ∈ ps, ∀ f ∈ p, FOk z f) : Anti zs ∧ zs.Nodup := by
  obtain ⟨Gs, gr, rfl⟩ := M
  have h := pick_anti al (Gs.mergeSort leK) [] (fun g hg r hr => ?_) (fun g hg => gr.nd g (List.mem_mergeSort.mp hg)) (leK_sorted Gs) (fun m h => (nomatch h)) (fun a ha => (nomatch ha)) List.nodup_nil (fun m h => (nomatch h))
  · refine ⟨fun a ha b hb => h.1 a (List.mem_mergeSort.mp ha) b (List.mem_mergeSort.mp hb), ?_⟩
    exact (List.mergeSort_perm _ _).nodup_iff.mpr h.2
  · have hg' := List.mem_mergeSort.mp hg
    obtain ⟨p, hp, rfl⟩ := (gr.mem r).mp ⟨g, hg', hr⟩
    exact ⟨⟨fun f hf => ok p hp f (red_mem hf), red_apart p⟩, gr.key g hg' _ hr⟩
/-- all words: the star of the alphabet alone -/
theorem MaxOf.full {z : Str} (al : Alph z) {ps zs : List (List Fc)} (M : MaxOf ps zs) (ok : ∀ p ∈ ps, ∀ f ∈ p, FOk z f) {p : List Fc} (hp : p ∈ ps) (h : inc (red p) [(true, z)] = true) : zs = [[(true, z)]] := by
  have e := red_full (ok p hp) al h
  have an := M.anti al ok
  have oz : ∀ q ∈ zs, ∀ f ∈ q, FOk z f := fun q hq f hf => by
    obtain ⟨p', hp', rfl⟩ := M.sub q hq
    exact ok p' hp' f (red_mem hf)
  have all : ∀ q ∈ zs, inc [(true, z)] q = true := fun q hq => by
    have gen : ∀ l : List Fc, (∀ f ∈ l, FOk z f) → inc [(true, z)] l = true := fun l => by
      induction l with
      | nil => intro _; simp [inc]
      | cons f l ih =>
        intro h
        have c : cov (true, z) f = true := Bool.or_eq_true_iff.mpr (.inr (sw_all (h f List.mem_cons_self)))
        rw [inc, if_pos c, if_pos rfl]
        exact ih fun g hg => h g (List.mem_cons_of_mem _ hg)
    exact gen q (oz q hq)
  have mem : [(true, z)] ∈ zs := by
    rcases M.sup p hp with q | ⟨m, hm, hi⟩
    · rw [e] at q; exact q
    · rw [e] at hi
      obtain ⟨p', hp', rfl⟩ := M.sub m hm
      rw [red_full (ok p' hp') al hi] at hm
      exact hm
  have eqs : ∀ q ∈ zs, q = [(true, z)] := fun q hq => an.1 _ mem q hq (all q hq)
  match zs, mem, eqs, an.2 with
  | [q], _, eqs, _ => rw [eqs q List.mem_cons_self]
  | q :: q' :: r, _, eqs, nd =>
    have h1 := eqs q List.mem_cons_self
    have h2 := eqs q' (by simp)
    rw [h1, h2] at nd
    have := (List.nodup_cons.mp nd).1
    simp at this
end DW
/-! one set of products for each language; written forms tell products apart -/
namespace DW
open PySem PySem.Spec PyProof.Rows L2 TL
set_option autoImplicit false
theorem len_sum : ∀ (zs : List (List Fc)) (q : List Fc), q ∈ zs → q.length ≤ (zs.map List.length).sum
  | [], _, h => (nomatch h)
  | x :: zs, q, h => by
    rw [List.map_cons, List.sum_cons]
    rcases List.mem_cons.mp h with e | e
    · rw [e]; omega
    · have := len_sum zs q e
      omega
theorem inc_trans {a b c : List Fc} (wa : W1 a) (wc : W1 c) (h1 : inc a b = true) (h2 : inc b c = true) : inc a c = true :=
  (inc_iff wc wa).mpr (inc_sound a b h1 _ (inc_sound b c h2 _ (Lg.unf _ c fun f hf => (wc f hf).2)))
theorem inc_anti {z : Str} (al : Alph z) {a b : List Fc} (ra : Rz z a) (rb : Rz z b) (h1 : inc a b = true) (h2 : inc b a = true) : a = b := by
  rcases inc_size al a b ra.ok rb.ok rb.ap h1 with e | e
  · exact e.symm
  · rcases inc_size al b a rb.ok ra.ok ra.ap h2 with e' | e'
    · exact e'
    · exact absurd (List.lt_trans e.lt e'.lt) (List.lt_irrefl _)
theorem MaxOf.rz {z : Str} {ps zs : List (List Fc)} (M : MaxOf ps zs) (ok : ∀ p ∈ ps, ∀ f ∈ p, FOk z f) : ∀ q ∈ zs, Rz z q := fun q hq => by
  obtain ⟨p, hp, rfl⟩ := M.sub q hq
  exact ⟨fun f hf => ok p hp f (red_mem hf), red_apart p⟩
/-- a product whose words are all in a list of products is inside one of them -/
theorem into_one {z : Str} {q : List Fc} {zs : List (List Fc)} (rq : Rz z q) (rz : ∀ q ∈ zs, Rz z q) (h : ∀ u, Lg q u → hasW zs u = true) : ∃ q' ∈ zs, inc q' q = true := by
  have wq := fok_w1 rq.ok
  have h1 := h _ (Lg.unf ((zs.map List.length).sum + 1) q fun f hf => (wq f hf).2)
  unfold hasW at h1
  obtain ⟨q', hq', hi⟩ := List.any_eq_true.mp h1
  have w' := fok_w1 (rz q' hq').ok
  have l := (acc_iff w' _).mp hi
  exact ⟨q', hq', inc_complete _ q q' wq w' (by have := len_sum zs q' hq'; omega) l⟩
theorem has_of {z : Str} {q : List Fc} {zs : List (List Fc)} (rz : ∀ q ∈ zs, Rz z q) (hq : q ∈ zs) {u : List Nat} (h : Lg q u) : hasW zs u = true := by
  unfold hasW
  exact List.any_eq_true.mpr ⟨q, hq, (acc_iff (fok_w1 (rz q hq).ok) u).mpr h⟩
theorem MaxOf.uniq {z : Str} (al : Alph z) {ps zs ps' zs' : List (List Fc)} (M : MaxOf ps zs) (M' : MaxOf ps' zs') (ok : ∀ p ∈ ps, ∀ f ∈ p, FOk z f) (ok' : ∀ p ∈ ps', ∀ f ∈ p, FOk z f) (h : ∀ u, hasW zs u = hasW zs' u) : ∀ q ∈ zs, q ∈ zs' := fun q hq => by
  have rz := M.rz ok
  have rz' := M'.rz ok'
  obtain ⟨q', hq', i1⟩ := into_one (rz q hq) rz' fun u hu => by rw [← h]; exact has_of rz hq hu
  obtain ⟨q'', hq'', i2⟩ := into_one (rz' q' hq') rz fun u hu => by rw [h]; exact has_of rz' hq' hu
  have i3 := inc_trans (fok_w1 (rz q'' hq'').ok) (fok_w1 (rz q hq).ok) i2 i1
  have e := (M.anti al ok).1 q'' hq'' q hq i3
  rw [← e] at i2
  rw [inc_anti al (rz q hq) (rz' q' hq') i2 i1]
  exact hq'
/-! ### written forms -/
theorem fform_tl (f : Fc) : tl (fform f) = if f.1 = true then 123 :: (tl f.2 ++ [125, 42]) else tl f.2 ++ [63] := by
  unfold fform
  split
  · rw [tl_app2, tl_app2]
    have e1 : tl "{" = [123] := by decide +kernel
    have e2 : tl "}*" = [125, 42] := by decide +kernel
    rw [e1, e2]
    simp
  · rw [tl_app2]
    have e2 : tl "?" = [63] := by decide +kernel
    rw [e2]
theorem app_split : ∀ {a b : List Nat} {x y : List Nat} {c d : Nat}, (∀ k ∈ a, k ≠ c) → (∀ k ∈ b, k ≠ c) → c = d → a ++ c :: x = b ++ d :: y → a = b ∧ x = y
  | [], [], _, _, _, _, _, _, e, h => by
    subst e
    exact ⟨rfl, (List.cons.inj h).2⟩
  | [], k :: b, x, y, c, d, _, hb, e, h => absurd (List.cons.inj h).1.symm (hb k List.mem_cons_self)
  | k :: a, [], x, y, c, d, ha, _, e, h => absurd ((List.cons.inj h).1.trans e.symm) (ha k List.mem_cons_self)
  | k :: a, j :: b, x, y, c, d, ha, hb, e, h => by
    obtain ⟨h1, h2⟩ := List.cons.inj h
    obtain ⟨i1, i2⟩ := app_split (fun k hk => ha k (List.mem_cons_of_mem _ hk)) (fun k hk => hb k (List.mem_cons_of_mem _ hk)) e h2
    exact ⟨by rw [h1, i1], i2⟩
theorem fform_split {z : Str} (al : Alph z) {f g : Fc} (hf : FOk z f) (hg : FOk z g) {x y : List Nat} (h : tl (fform f) ++ x = tl (fform g) ++ y) : f = g ∧ x = y := by
  have low : ∀ {f : Fc}, FOk z f → ∀ c ∈ tl f.2, 97 ≤ c ∧ c ≤ 122 := fun h c hc => al.2.2.2 c (h.2.1.subset hc)
  have lf := low hf
  have lg := low hg
  rw [fform_tl, fform_tl] at h
  obtain ⟨a, s⟩ := f
  obtain ⟨b, t⟩ := g
  simp only at h lf lg
  cases a <;> cases b
  · simp only [Bool.false_eq_true, if_false, List.append_assoc, List.cons_append, List.nil_append] at h
    obtain ⟨e1, e2⟩ := app_split (fun k hk => by have := lf k hk; omega) (fun k hk => by have := lg k hk; omega) rfl h
    exact ⟨by rw [tl_inj e1], e2⟩
  · simp only [Bool.false_eq_true, if_false, if_true, List.append_assoc, List.cons_append, List.nil_append] at h
    cases e : tl s with
    | nil => exact absurd e hf.1
    | cons c r =>
      rw [e] at h
      have h1 := (List.cons.inj h).1
      have := lf c (by rw [e]; exact List.mem_cons_self)
      omega
  · simp only [Bool.false_eq_true, if_false, if_true, List.append_assoc, List.cons_append, List.nil_append] at h
    cases e : tl t with
    | nil => exact absurd e hg.1
    | cons c r =>
      rw [e] at h
      have h1 := (List.cons.inj h).1
      have := lg c (by rw [e]; exact List.mem_cons_self)
      omega
  · simp only [if_true, List.append_assoc, List.cons_append, List.nil_append] at h
    have h1 := (List.cons.inj h).2
    obtain ⟨e1, e2⟩ := app_split (fun k hk => by have := lf k hk; omega) (fun k hk => by have := lg k hk; omega) rfl h1
    exact ⟨by rw [tl_inj e1], (List.cons.inj e2).2⟩
theorem flat_inj {z : Str} (al : Alph z) : ∀ (fs gs : List Fc), (∀ f ∈ fs, FOk z f) → (∀ f ∈ gs, FOk z f) → (fs.map fun f => tl (fform f)).flatten = (gs.map fun f => tl (fform f)).flatten → fs = gs
  | [], [], _, _, _ => rfl
  | [], g :: gs, _, _, h => by
    rw [List.map_cons, List.flatten_cons, List.map_nil, List.flatten_nil, fform_tl] at h
    split at h <;> simp at h
  | f :: fs, [], _, _, h => by
    rw [List.map_cons, List.flatten_cons, List.map_nil, List.flatten_nil, fform_tl] at h
    split at h <;> simp at h
  | f :: fs, g :: gs, hf, hg, h => by
    rw [List.map_cons, List.map_cons, List.flatten_cons, List.flatten_cons] at h
    obtain ⟨e1, e2⟩ := fform_split al (hf f List.mem_cons_self) (hg g List.mem_cons_self) h
    rw [e1, flat_inj al fs gs (fun f h => hf f (List.mem_cons_of_mem _ h)) (fun f h => hg f (List.mem_cons_of_mem _ h)) e2]
theorem pform_tl {fs : List Fc} (h : fs ≠ []) : tl (pform fs) = (fs.map fun f => tl (fform f)).flatten := by
  unfold pform
  rw [if_neg h, tl_cat, List.map_map]
  rfl
theorem pform_nil {z : Str} (al : Alph z) {g : Fc} {gs : List Fc} (hg : FOk z g) : tl (pform []) ≠ tl (pform (g :: gs)) := by
  rw [pform_tl (List.cons_ne_nil _ _), List.map_cons, List.flatten_cons, fform_tl]
  have e : tl (pform []) = [45] := by
    unfold pform
    rw [if_pos rfl]
    decide +kernel
  rw [e]
  split
  · intro h
    have := (List.cons.inj h).1
    omega
  · cases q : tl g.2 with
    | nil => exact absurd q hg.1
    | cons c r =>
      intro h
      have h1 := (List.cons.inj h).1
      have := al.2.2.2 c (hg.2.1.subset (by rw [q]; exact List.mem_cons_self))
      omega
theorem pform_inj {z : Str} (al : Alph z) {fs gs : List Fc} (hf : ∀ f ∈ fs, FOk z f) (hg : ∀ f ∈ gs, FOk z f) (h : tl (pform fs) = tl (pform gs)) : fs = gs := by
  match fs, gs, hf, hg, h with
  | [], [], _, _, _ => rfl
  | [], g :: gs, _, hg, h => exact absurd h (pform_nil al (hg g List.mem_cons_self))
  | f :: fs, [], hf, _, h => exact absurd h.symm (pform_nil al (hf f List.mem_cons_self))
  | f :: fs, g :: gs, hf, hg, h =>
    rw [pform_tl (List.cons_ne_nil _ _), pform_tl (List.cons_ne_nil _ _)] at h
    exact flat_inj al _ _ hf hg h
theorem sorted_uniq {le : List Fc → List Fc → Prop} : ∀ (l m : List (List Fc)), (∀ a ∈ l, ∀ b ∈ l, le a b → le b a → a = b) → l.Pairwise le → m.Pairwise le → l.Nodup → m.Nodup → (∀ x, x ∈ l ↔ x ∈ m) → l = m
  | [], [], _, _, _, _, _, _ => rfl
  | [], b :: m, _, _, _, _, _, h => (nomatch (h b).mpr List.mem_cons_self)
  | a :: l, [], _, _, _, _, _, h => (nomatch (h a).mp List.mem_cons_self)
  | a :: l, b :: m, an, pl, pm, nl, nm, h => by
    have pl' := List.pairwise_cons.mp pl
    have pm' := List.pairwise_cons.mp pm
    have nl' := List.nodup_cons.mp nl
    have nm' := List.nodup_cons.mp nm
    have e : a = b := by
      rcases List.mem_cons.mp ((h a).mp List.mem_cons_self) with q | q
      · exact q
      · rcases List.mem_cons.mp ((h b).mpr List.mem_cons_self) with w | w
        · exact w.symm
        · exact an a List.mem_cons_self b (List.mem_cons_of_mem _ w) (pl'.1 b w) (pm'.1 a q)
    subst e
    rw [sorted_uniq l m (fun x hx y hy => an x (List.mem_cons_of_mem _ hx) y (List.mem_cons_of_mem _ hy)) pl'.2 pm'.2 nl'.2 nm'.2 fun x => ?_]
    constructor
    · intro hx
      rcases List.mem_cons.mp ((h x).mp (List.mem_cons_of_mem _ hx)) with q | q
      · rw [q] at hx; exact absurd hx nl'.1
      · exact q
    · intro hx
      rcases List.mem_cons.mp ((h x).mpr (List.mem_cons_of_mem _ hx)) with q | q
      · rw [q] at hx; exact absurd hx nm'.1
      · exact q
theorem MaxOf.sorted {ps zs : List (List Fc)} (M : MaxOf ps zs) : zs.Pairwise fun x y => tl (pform x) ≤ tl (pform y) := by
  obtain ⟨Gs, gr, rfl⟩ := M
  have p := List.pairwise_mergeSort (le := fun x y : List Fc => decide (tl (pform x) ≤ tl (pform y))) (fun a b c h1 h2 => decide_eq_true (List.le_trans (of_decide_eq_true h1) (of_decide_eq_true h2))) (fun a b => by
    rcases List.le_total (tl (pform a)) (tl (pform b)) with h | h
    · rw [decide_eq_true h]; rfl
    · rw [decide_eq_true h, Bool.or_true]) (pickM (Gs.mergeSort leK))
  exact p.imp fun h => of_decide_eq_true h
/-- one list for each language -/
theorem MaxOf.one {z : Str} (al : Alph z) {ps zs ps' zs' : List (List Fc)} (M : MaxOf ps zs) (M' : MaxOf ps' zs') (ok : ∀ p ∈ ps, ∀ f ∈ p, FOk z f) (ok' : ∀ p ∈ ps', ∀ f ∈ p, FOk z f) (h : ∀ u, hasW zs u = hasW zs' u) : zs = zs' :=
  sorted_uniq zs zs' (fun a ha b hb h1 h2 => pform_inj al (M.rz ok a ha).ok (M.rz ok b hb).ok (List.le_antisymm h1 h2)) M.sorted M'.sorted (M.anti al ok).2 (M'.anti al ok').2 fun q => ⟨M.uniq al M' ok ok' h q, M'.uniq al M ok' ok (fun u => (h u).symm) q⟩
end DW
namespace DW
open PySem PySem.Spec PyProof.Rows L2 TL
set_option autoImplicit false
abbrev sLangAlphabet : Stmt := clsS 34 1
abbrev sLangProducts : Stmt := clsS 34 2
abbrev sLangEmpty : Stmt := clsS 34 4
abbrev sLangFull : Stmt := clsS 34 5
abbrev sLangLetters : Stmt := clsS 34 6
abbrev sLangEq : Stmt := clsS 34 7
abbrev sLangStr : Stmt := clsS 34 8
/-- the class with all its methods -/
structure DfC2 (K : PySem.W.Frag) (mg : Str → Option Value) extends DfC K mg where
  a : DfM K C "alphabet" "Language.alphabet" sLangAlphabet ["self"]
  mta : Meth K C "alphabet" a.f
  p : DfM K C "products" "Language.products" sLangProducts ["self"]
  mtp : Meth K C "products" p.f
  e : DfM K C "is_empty" "Language.is_empty" sLangEmpty ["self"]
  mte : Meth K C "is_empty" e.f
  fu : DfM K C "is_full" "Language.is_full" sLangFull ["self"]
  mtf : Meth K C "is_full" fu.f
  l : DfM K C "letters" "Language.letters" sLangLetters ["self"]
  mtl : Meth K C "letters" l.f
  q : DfM K C "__eq__" "Language.__eq__" sLangEq ["self", "other"]
  mtq : Meth K C "__eq__" q.f
  s : DfM K C "__str__" "Language.__str__" sLangStr ["self"]
  mts : Meth K C "__str__" s.f
def starF (z : Str) : List Fc := if tl z = [] then [] else [(true, z)]
def spStp (K : PySem.W.Frag) : Sp := fun vs H Q _ => ∃ z : Str, vs = [.str z] ∧ ∀ H' v, Same H H' → IsP K H' v (starF z) → Q v H'
def spLaA (K : PySem.W.Frag) (C : Addr) : Sp := fun vs H Q _ => ∃ (p : Addr) (z : Str) (zs : List (List Fc)), vs = [.ref p] ∧ LaAt K C H p z zs ∧ Q (.str z) H
def spLaP (K : PySem.W.Frag) (C : Addr) : Sp := fun vs H Q _ => ∃ (p : Addr) (z : Str) (zs : List (List Fc)), vs = [.ref p] ∧ LaAt K C H p z zs ∧ ∀ H' q ys, Same H H' → H q = none → H' q = some (.lst ys) → IsL K H' ys zs → Q (.ref q) H'
def spLaE (K : PySem.W.Frag) (C : Addr) : Sp := fun vs H Q _ => ∃ (p : Addr) (z : Str) (zs : List (List Fc)), vs = [.ref p] ∧ LaAt K C H p z zs ∧ Q (.bl (decide (zs = []))) H
def spLaF (K : PySem.W.Frag) (C : Addr) : Sp := fun vs H Q _ => ∃ (p : Addr) (z : Str) (zs : List (List Fc)), vs = [.ref p] ∧ LaAt K C H p z zs ∧ Alph z ∧ (∀ q ∈ zs, ∀ f ∈ q, FOk z f) ∧ ∀ H', Same H H' → Q (.bl (decide (zs = [[(true, z)]]))) H'
/-- the letters of factors, ascending -/
def LtOf (fs : List Fc) (r : Str) : Prop := (tl r).Pairwise (· < ·) ∧ ∀ c, c ∈ tl r ↔ ∃ f ∈ fs, c ∈ ls f
def spLof (K : PySem.W.Frag) : Sp := fun vs H Q _ => ∃ (a : Addr) (z : Str) (xs : List V) (fs : List Fc), vs = [.ref a] ∧ SqL K H a xs ∧ IsFs K H xs fs ∧ Alph z ∧ (∀ f ∈ fs, FOk z f) ∧ fs.length ≤ 1000 ∧ ∀ H' r, Same H H' → LtOf fs r → Q (.str r) H'
def spLaL (K : PySem.W.Frag) (C : Addr) : Sp := fun vs H Q _ => ∃ (p : Addr) (z : Str) (zs : List (List Fc)), vs = [.ref p] ∧ LaAt K C H p z zs ∧ Alph z ∧ (∀ q ∈ zs, ∀ f ∈ q, FOk z f) ∧ zs.flatten.length ≤ 1000 ∧ ∀ H' r, Same H H' → LtOf zs.flatten r → Q (.str r) H'
theorem nodup_len {α : Type} [DecidableEq α] : ∀ (l m : List α), l.Nodup → (∀ x ∈ l, x ∈ m) → l.length ≤ m.length
  | [], _, _, _ => Nat.zero_le _
  | a :: l, m, nd, h => by
    obtain ⟨na, nd⟩ := List.nodup_cons.mp nd
    have hm := h a List.mem_cons_self
    have q := nodup_len l (m.erase a) nd fun x hx => (List.mem_erase_of_ne (by intro e; subst e; exact na hx)).mpr (h x (List.mem_cons_of_mem _ hx))
    rw [List.length_erase_of_mem hm] at q
    have := List.length_pos_of_mem hm
    rw [List.length_cons]
    omega
theorem signs_mem {x k : Str} : k ∈ TX.signs x ↔ ∃ c ∈ tl x, k = one c := by
  unfold TX.signs
  rw [List.mem_map]
  exact ⟨fun ⟨c, h, e⟩ => ⟨c, h, e.symm⟩, fun ⟨c, h, e⟩ => ⟨c, h, e.symm⟩⟩
/-- sorted(set(x)) joined -/
theorem set_lets {x : Str} {ls ys : List Str} (nd : ls.Nodup) (mem : ∀ k, k ∈ ls ↔ k ∈ TX.signs x) (pm : ys.Perm ls) (so : sortedS ys = true) :
    (tl (Txt.join "" ys)).Pairwise (· < ·) ∧ (∀ c, c ∈ tl (Txt.join "" ys) ↔ c ∈ tl x) ∧ ∀ y ∈ ys, ∃ c, y = one c := by
  have my : ∀ k, k ∈ ys ↔ k ∈ TX.signs x := fun k => (pm.mem_iff).trans (mem k)
  have h1 : ∀ y ∈ ys, ∃ c, y = one c := fun y hy => by
    obtain ⟨c, _, e⟩ := signs_mem.mp ((my y).mp hy)
    exact ⟨c, e⟩
  obtain ⟨cs, rfl, pw⟩ := sorted_ones ys h1 (pm.nodup_iff.mpr nd) so
  have ej : tl (Txt.join "" (cs.map one)) = cs := by rw [tl_cat, flat_ones]
  refine ⟨by rw [ej]; exact pw, fun c => ?_, h1⟩
  rw [ej]
  constructor
  · intro h
    obtain ⟨d, hd, e⟩ := signs_mem.mp ((my (one c)).mp (List.mem_map.mpr ⟨c, h, rfl⟩))
    have e' : tl (one c) = tl (one d) := congrArg tl e
    rw [tl_one, tl_one] at e'
    rw [(List.cons.inj e').1]
    exact hd
  · intro h
    obtain ⟨d, hd, e⟩ := List.mem_map.mp ((my (one c)).mpr (signs_mem.mpr ⟨c, h, rfl⟩))
    have e' : tl (one d) = tl (one c) := congrArg tl e
    rw [tl_one, tl_one] at e'
    rw [← (List.cons.inj e').1]
    exact hd
section
variable {P : Program} {w : World} {K : PySem.W.Frag} {mg : Str → Option Value} {base : Heap}
theorem IsL.dp {H : Hp} : ∀ {vs : List V} {fs : List (List Fc)}, IsL K H vs fs → DpAll K H vs (fs.map pD)
  | _, _, .nil => .nil
  | _, _, .cons h r => .cons h.dp r.dp
theorem ps_eqv : ∀ fs gs : List (List Fc), PyData.eqvAll (fs.map pD) (gs.map pD) = decide (fs = gs)
  | [], [] => by simp [PyData.eqvAll]
  | [], g :: gs => by simp [PyData.eqvAll]
  | f :: fs, [] => by simp [PyData.eqvAll]
  | f :: fs, g :: gs => by
    simp only [List.map_cons, PyData.eqvAll, pD_eqv, ps_eqv fs gs]
    rw [Bool.eq_iff_iff]
    simp
theorem pl_eqv (fs gs : List (List Fc)) : PyData.eqv (.list (fs.map pD)) (.list (gs.map pD)) = decide (fs = gs) := by
  unfold PyData.eqv
  exact ps_eqv fs gs
theorem IsL.lens {H : Hp} : ∀ {vs : List V} {zs : List (List Fc)}, IsL K H vs zs → ∀ (i : Nat) (v : V), vs[i]? = some v → ∃ q a xs, zs[i]? = some q ∧ v = .ref a ∧ SqT K H a xs ∧ IsFs K H xs q := fun iL i v hv => by
  obtain ⟨q, hq, a, xs, e, h1, h2⟩ := iL.get i v hv
  exact ⟨q, a, xs, hq, e, h1, h2⟩
theorem flat_take (zs : List (List Fc)) {i : Nat} {q : List Fc} (h : zs[i]? = some q) : (zs.take (i + 1)).flatten = (zs.take i).flatten ++ q := by
  rw [List.take_add_one, h, List.flatten_append]
  simp
theorem flat_len (zs : List (List Fc)) (i : Nat) : (zs.take i).flatten.length ≤ zs.flatten.length := by
  have e : zs.flatten = (zs.take i).flatten ++ (zs.drop i).flatten := by rw [← List.flatten_append, List.take_append_drop]
  rw [e, List.length_append]
  omega
theorem upd_lst {H : Hp} {l : Addr} {vs : List V} {o : HO} (hl : H l = some (.lst vs)) (b : Addr) (xs : List V) (h : SqT K H b xs) : SqT K (upd H l o) b xs := by
  rcases h with (h | ⟨v, h⟩) | h
  · exact .inl (.inl ((upd_ne (ne_of h hl (by intro z; cases z))).trans h))
  · exact .inl (.inr ⟨v, (upd_ne (ne_of h hl (by intro z; cases z))).trans h⟩)
  · exact .inr h
end
end DW
set_option maxHeartbeats 0
namespace DW
open PySem PySem.Spec PyProof.Rows L2
def mkD (x : Str) (st : Stmt) : He.DefD := ⟨(x, none), x, x, defArgs st, defBody st, defScope st, [], []⟩
def fn : List He.DefD := [mkD "law" sLaw, mkD "_wall" sWall, mkD "is_ascending" sIsAscending, mkD "is_alphabet" sIsAlphabet, mkD "is_word" sIsWord, mkD "is_factor" sIsFactor, mkD "is_product" sIsProduct, mkD "format_factor" sFormatFactor, mkD "format_product" sFormatProduct, mkD "letters_of" sLettersOf, mkD "swallows" sSwallows, mkD "covers" sCovers, mkD "reduce_product" sReduceProduct, mkD "behind" sBehind, mkD "place_behind" sPlaceBehind, mkD "is_included" sIsIncluded, mkD "subwords_product" sSubwordsProduct, mkD "star_product" sStarProduct, mkD "is_inside" sIsInside, mkD "size_of_product" sSizeOfProduct, mkD "by_written_form" sByWrittenForm, mkD "maximal_products" sMaximalProducts, mkD "format_products" sFormatProducts, mkD "language_of_maximal" sLanguageOfMaximal, mkD "closure_of_words" sClosureOfWords, mkD "check_alphabets" sCheckAlphabets, mkD "check_products" sCheckProducts, mkD "is_subset" sIsSubset, mkD "union_of_all" sUnionOfAll, mkD "union" sUnion, mkD "stars_among" sStarsAmong, mkD "maximal_tails" sMaximalTails, mkD "maximal_heads" sMaximalHeads, mkD "concatenation" sConcatenation, mkD "reversal" sReversal, mkD "star" sStar, mkD "wrong_index" sWrongIndex, mkD "check_expression" sCheckExpression, mkD "read_operand" sReadOperand, mkD "read_item" sReadItem, mkD "read_alternative" sReadAlternative, mkD "read_choice" sReadChoice, mkD "closure_of_expression" sClosureOfExpression, mkD "_law_begin" sBegin, mkD "_law_draw" sDraw, mkD "_law_pick" sPick, mkD "_law_alphabet" sAlpha, mkD "_law_tree" sLTree, mkD "_law_written" sLWritten, mkD "_law_backwards" sLBackwards, mkD "_law_all_right" sLAllRight, ⟨("Language", some "__init__"), "__init__", "Language.__init__", defArgs sLangInit, defBody sLangInit, defScope sLangInit, [], []⟩, ⟨("Language", some "contains"), "contains", "Language.contains", defArgs sLangContains, defBody sLangContains, defScope sLangContains, [], []⟩, ⟨("Language", some "alphabet"), "alphabet", "Language.alphabet", defArgs sLangAlphabet, defBody sLangAlphabet, defScope sLangAlphabet, [], []⟩, ⟨("Language", some "products"), "products", "Language.products", defArgs sLangProducts, defBody sLangProducts, defScope sLangProducts, [], []⟩, ⟨("Language", some "is_empty"), "is_empty", "Language.is_empty", defArgs sLangEmpty, defBody sLangEmpty, defScope sLangEmpty, [], []⟩, ⟨("Language", some "is_full"), "is_full", "Language.is_full", defArgs sLangFull, defBody sLangFull, defScope sLangFull, [], []⟩, ⟨("Language", some "letters"), "letters", "Language.letters", defArgs sLangLetters, defBody sLangLetters, defScope sLangLetters, [], []⟩, ⟨("Language", some "__eq__"), "__eq__", "Language.__eq__", defArgs sLangEq, defBody sLangEq, defScope sLangEq, [], []⟩, ⟨("Language", some "__str__"), "__str__", "Language.__str__", defArgs sLangStr, defBody sLangStr, defScope sLangStr, [], []⟩]
def fa : List He.Fa := [.glo "law", .glo "_wall", .glo "is_ascending", .glo "is_alphabet", .glo "is_word", .glo "is_factor", .glo "is_product", .glo "format_factor", .glo "format_product", .glo "letters_of", .glo "swallows", .glo "covers", .glo "reduce_product", .glo "behind", .glo "place_behind", .glo "is_included", .glo "subwords_product", .glo "star_product", .glo "is_inside", .glo "size_of_product", .glo "by_written_form", .glo "maximal_products", .glo "format_products", .glo "language_of_maximal", .glo "closure_of_words", .glo "check_alphabets", .glo "check_products", .glo "is_subset", .glo "union_of_all", .glo "union", .glo "stars_among", .glo "maximal_tails", .glo "maximal_heads", .glo "concatenation", .glo "reversal", .glo "star", .glo "wrong_index", .glo "check_expression", .glo "read_operand", .glo "read_item", .glo "read_alternative", .glo "read_choice", .glo "closure_of_expression", .glo "_law_begin", .glo "_law_draw", .glo "_law_pick", .glo "_law_alphabet", .glo "_law_tree", .glo "_law_written", .glo "_law_backwards", .glo "_law_all_right", .free "all", .free "zip", .free "isinstance", .free "str", .free "len", .free "tuple", .free "sorted", .free "set", .free "reversed", .free "range", .free "list", .free "enumerate", .int "MOST_LETTERS" 3, .int "AT_START" 0, .int "IN_PARENTHESES" 1, .int "BEHIND_ITEM" 2, .int "MOST_CHARACTERS" 60, .int "CLOSURE_LIMIT" 50, .str "POSTFIX_OPERATORS" "*+?", .str "EMPTY_FORM" "-", .str "NO_WORDS" "none", .glo "Language", .cls "Language", .noat "Language" "base", .noat "Language" "maximal", .mkr "Language", .meth "Language" "contains", .meth "Language" "alphabet", .meth "Language" "products", .meth "Language" "is_empty", .meth "Language" "is_full", .meth "Language" "letters", .meth "Language" "__eq__", .meth "Language" "__str__"]
abbrev R : PySem.W.OpenRow := PySem.W.OpenLaw.row PySem.Challenge.rw_downwords_k56_whole_expressions_put_toge
def xs : EX.Xs := { ini := [], ex := [], kit := [], exm := [], own := ["Language"], kty := [("list", "Language"), ("str", "Language"), ("int", "Language"), ("NoneType", "Language")] }
abbrev hk : PySem.W.Hook := EX.hookX R.prog 4 fa fn xs
def ob (s : PySem.W.SharedT) : EX.AlX := EX.obsXG R.prog 4 fa fn xs (HandSHeadRun.getT s)
theorem ob_eq (s : PySem.W.SharedT) : ob s = hk.obs s.abs := EX.obsXG_eq (HandSHeadRun.getT_eq s)
abbrev names : List Str := "__name__" :: "DownwordsError" :: "InvalidAlphabet" :: "InvalidProduct" :: "AlphabetMismatch" :: "TooMany" :: "InvalidExpression" :: "Language" :: "MOST_LETTERS" :: "AT_START" :: "IN_PARENTHESES" :: "BEHIND_ITEM" :: "MOST_CHARACTERS" :: "CLOSURE_LIMIT" :: "POSTFIX_OPERATORS" :: "EMPTY_FORM" :: "NO_WORDS" :: "_wall" :: "is_ascending" :: "is_alphabet" :: "is_word" :: "is_factor" :: "is_product" :: "format_factor" :: "format_product" :: "letters_of" :: "swallows" :: "covers" :: "reduce_product" :: "behind" :: "place_behind" :: "is_included" :: "subwords_product" :: "star_product" :: "is_inside" :: "size_of_product" :: "by_written_form" :: "maximal_products" :: "format_products" :: "language_of_maximal" :: "closure_of_words" :: "check_alphabets" :: "check_products" :: "is_subset" :: "union_of_all" :: "union" :: "stars_among" :: "maximal_tails" :: "maximal_heads" :: "concatenation" :: "reversal" :: "star" :: "wrong_index" :: "check_expression" :: "read_operand" :: "read_item" :: "read_alternative" :: "read_choice" :: "closure_of_expression" :: "_law_begin" :: "_law_draw" :: "_law_pick" :: "_law_alphabet" :: "_law_tree" :: "_law_written" :: "_law_backwards" :: "_law_all_right" :: []
end DW
namespace DW
section
open PySem PySem.W PySem.Calls PyProof.Rows HandSHeadRun
theorem map3 {α β γ δ : Type} {o : Option α} {f : α → β} {g : α → γ} {h : α → δ} {a : β} {b : γ} {c : δ} (e1 : o.map f = some a) (e2 : o.map g = some b) (e3 : o.map h = some c) : o.map (fun s => (f s, g s, h s)) = some (a, b, c) := by
  cases o with
  | none => cases e1
  | some x => rw [Option.map_some, Option.some.inj e1, Option.some.inj e2, Option.some.inj e3]
theorem run1 (w : World) (os : OsState) : (endF (stepQ (denQ tabQ) R.prog w) 4000 R.prog w os).map (fun s => looksF R.prog (boot_heap w.params) s.abs) = some true := by
  kernel_rfl
theorem run2 (w : World) (os : OsState) : (endF (stepQ (denQ tabQ) R.prog w) 4000 R.prog w os).map (fun s => seenQ (PySem.W.view R.prog [73]) DW.names (importedModules R.prog.main.body) (fun s => xlAt (PySem.W.view R.prog [73]) [] s && recOk R.toRowW.records s) s.abs) = some (openGood (PySem.W.view R.prog [73]) DW.names) := by
  kernel_rfl
theorem run3 (w : World) (os : OsState) : (endF (stepQ (denQ tabQ) R.prog w) 4000 R.prog w os).map (fun s => DW.ob s) = some (DW.hk.val w) := by
  kernel_rfl
end
end DW
namespace DW
open PySem PySem.Spec PyProof.Rows L2
theorem run (w : World) : HandSHeadRun.RunEq R (PySem.W.view R.prog [73]) hk ob 4000 names w := fun os => map3 (run1 w os) (run2 w os) (run3 w os)
end DW
set_option maxHeartbeats 4000000
namespace DW
open PySem PySem.Spec PyProof.Rows L2 TL
set_option autoImplicit false
section
variable {P : Program} {w : World} {K : PySem.W.Frag} {mg : Str → Option Value} {base : Heap}
theorem scLaA : FnScope ["self"] ["self"] (defScope sLangAlphabet) := ⟨rfl, rfl, rfl, by decide +kernel, rfl, by decide +kernel, by decide +kernel⟩
theorem ok_laA (D : DfC2 K mg) : FnOk P w K mg base CX0 1 D.a.f D.a.fd ["self"] (spLaA K D.C) := by
  refine D.a.F.ok scLaA (fun vs H Q E h => ?_) (fun cdv A outer s H vs Q E hr h => ?_)
  · obtain ⟨p, z, zs, rfl, _⟩ := h
    rfl
  · obtain ⟨p, z, zs, rfl, ⟨dx, q, ys, h1, h2, h3⟩, k⟩ := h
    refine ⟨_, (pss_one (ps_ret (pe_fld (pv 0) rfl))), ?_⟩
    exact ⟨.ref p, rfl, p, D.C, dx, _, _, rfl, h1, D.cl, D.nB, flL_base _ _, k⟩
end
end DW
namespace DW
open PySem PySem.Spec PyProof.Rows L2 TL
set_option autoImplicit false
section
variable {P : Program} {w : World} {K : PySem.W.Frag} {mg : Str → Option Value} {base : Heap}
theorem scLaP : FnScope ["self"] ["self"] (defScope sLangProducts) := ⟨rfl, rfl, rfl, by decide +kernel, rfl, by decide +kernel, by decide +kernel⟩
theorem ok_laP (D : DfC2 K mg) (ml : mg "list" = none) : FnOk P w K mg base CX0 1 D.p.f D.p.fd ["self"] (spLaP K D.C) := by
  refine D.p.F.ok scLaP (fun vs H Q E h => ?_) (fun cdv A outer s H vs Q E hr h => ?_)
  · obtain ⟨p, z, zs, rfl, _⟩ := h
    rfl
  · obtain ⟨p, z, zs, rfl, ⟨dx, q, ys, h1, h2, h3⟩, k⟩ := h
    refine ⟨_, (pss_one (ps_ret (pe_callTy call_list_of (by rfl) ml (by decide +kernel) (pa_cons (pe_fld (pv 0) rfl) pa_nil)))), ?_⟩
    exact ⟨.ref p, rfl, p, D.C, dx, _, _, rfl, h1, D.cl, D.nM, flL_max _ _, q, ys, rfl, .inl (SqL.of h2), fun l hl => k _ l ys (same_upd hl) hl upd_same (h3.mono (same_tup (same_upd hl)))⟩
end
end DW
namespace DW
open PySem PySem.Spec PyProof.Rows L2 TL
set_option autoImplicit false
section
variable {P : Program} {w : World} {K : PySem.W.Frag} {mg : Str → Option Value} {base : Heap}
theorem scLof : FnScope ["factors", "kind", "letters"] ["factors"] (defScope sLettersOf) := ⟨rfl, rfl, rfl, by decide +kernel, rfl, by decide +kernel, by decide +kernel⟩
theorem ok_lof (D : Df K mg "letters_of" sLettersOf ["factors"]) (ms : mg "sorted" = none) (mt : mg "set" = none) : FnOk P w K mg base CX0 1 D.f D.fd ["factors"] (spLof K) := by
  refine D.F.ok scLof (fun vs H Q E h => ?_) (fun cdv A outer s H vs Q E hr h => ?_)
  · obtain ⟨a, z, xs, fs, rfl, _⟩ := h
    rfl
  · obtain ⟨a, z, xs, fs, rfl, ha, iF, al, ok, fl, k⟩ := h
    have xl := iF.len
    have sz : ∀ y : Str, y.length = (tl y).length := fun y => (Array.length_toList).symm
    refine ⟨_, (pss_one (ps_ret (pe_join pe_str (pe_callB (TX.cr_sortTx rfl) (by rfl) ms (by decide +kernel) (pa_cons (pe_callTy (TX.cr_setT rfl) (by rfl) mt (by decide +kernel) (pa_cons (pe_join pe_str (pe_lc (own := [("kind", 1), ("letters", 2)]) (g := gTup K 2 (gCons (gName 1) (gCons (gName 2) gNil))) rfl scLof.nd (pi_list (pv 0)) (blkOk_by (N := ["factors", "kind", "letters"]) (sc := defScope sLettersOf) (by decide +kernel)) (fun _ _ _ _ _ => (pg_tup rfl (pgs_cons (pg_name (i := 1) scLof.nd rfl (.inl rfl)) (pgs_cons (pg_name (i := 2) scLof.nd rfl (.inl rfl)) pgs_nil)))) (fun _ _ _ _ _ => pts_nil) (fun _ _ _ _ _ => (pv 2)))) pa_nil)) pa_nil))))), ?_⟩
    refine ⟨⟨_, rfl⟩, ⟨_, rfl⟩, .ref a, rfl, a, rfl, ⟨_, ha⟩, fun L hL => ?_⟩
    refine lc_it (walk_list (xs := xs)) (fun i H' => H' L = some (.lst ((fs.take i).map fun f => V.str f.2)) ∧ Same H H') ⟨upd_same, same_upd hL⟩ (fun _ _ _ ⟨_, sm⟩ => same_lst sm ha) ?_ ?_
    · rintro i x G G' hi ⟨gL, sm⟩ ⟨rfl, hx⟩
      obtain ⟨f, hf, b, rfl, isf⟩ := iF.get i x hx
      refine ⟨b, _, rfl, same_tup sm _ _ isf, rfl, _, _, rfl, _, _, rfl, rfl, rfl, yes ⟨_, rfl, _, gL, ?_, ?_, fun b o e => (upd_ne (ne_of_none e hL)).trans (sm _ _ e)⟩⟩
      · rw [List.length_map, List.length_take, sizeLine_eq]
        omega
      · rw [upd_same, List.take_add_one, hf, List.map_append]
        rfl
    · rintro G ⟨gL, sm⟩
      rw [xl, List.take_length] at gL
      have e1 : (fs.map fun f => V.str f.2) = (fs.map fun f => f.2).map V.str := by rw [List.map_map]; rfl
      rw [e1] at gL
      have bound : ∀ gs : List Fc, (∀ f ∈ gs, FOk z f) → ((gs.map fun f => f.2).map (·.length)).sum ≤ 3 * gs.length := by
        intro gs
        induction gs with
        | nil => intro _; exact Nat.le_refl _
        | cons g gs ih =>
          intro hg
          have h1 := fok_len al (hg g List.mem_cons_self)
          have h2 := ih fun f hf => hg f (List.mem_cons_of_mem _ hf)
          have h3 : g.2.length = (ls g).length := sz _
          simp only [List.map_cons, List.sum_cons, List.length_cons]
          omega
      have bd := bound fs ok
      have e0 : ("" : Str).length = 0 := rfl
      refine ⟨"", L, fs.map fun f => f.2, rfl, rfl, .inl (SqL.of gL), by rw [e0, Nat.mul_zero]; omega, ?_⟩
      have tj : tl (Txt.join "" (fs.map fun f => f.2)) = (fs.map ls).flatten := by rw [tl_cat, List.map_map]; rfl
      have tlen : (tl (Txt.join "" (fs.map fun f => f.2))).length ≤ 3 * fs.length := by
        rw [tj, List.length_flatten, List.map_map]
        have : ((fs.map fun f => f.2).map (·.length)) = fs.map (List.length ∘ ls) := by
          rw [List.map_map]
          exact List.map_congr_left fun f _ => sz _
        rw [← this]
        exact bd
      generalize Txt.join "" (fs.map fun f => f.2) = big at tj tlen ⊢
      refine ⟨big, rfl, by rw [sz]; unfold scanBound; omega, fun a2 ks ha2 nd mem le => ?_⟩
      have s2 := same_upd (o := TX.SetTx P w a2 ks) ha2
      have kl : ks.length ≤ 3 := by
        have sub : ∀ k ∈ ks, k ∈ (tl z).map one := fun k hk => by
          obtain ⟨c, hc, e⟩ := signs_mem.mp ((mem k).mp hk)
          rw [tj] at hc
          obtain ⟨l, hl, hc⟩ := List.mem_flatten.mp hc
          obtain ⟨f, hf, rfl⟩ := List.mem_map.mp hl
          exact List.mem_map.mpr ⟨c, (ok f hf).2.1.subset hc, e.symm⟩
        have := nodup_len ks _ nd sub
        rw [List.length_map] at this
        exact Nat.le_trans this al.2.2.1
      refine ⟨a2, ks, rfl, upd_same, by omega, fun ys p pm so hp => ?_⟩
      have s3 := same_upd (o := .lst (ys.map V.str)) hp
      obtain ⟨pw, mc, on⟩ := set_lets nd mem pm so
      refine ⟨"", p, ys, rfl, rfl, .inl (SqL.of upd_same), ?_, k _ _ ((sm.trans s2).trans s3) ⟨pw, fun c => ?_⟩⟩
      · rw [sum_ones ys on, pm.length_eq, e0, Nat.mul_zero]
        omega
      · rw [mc, tj, List.mem_flatten]
        constructor
        · rintro ⟨l, hl, hc⟩
          obtain ⟨f, hf, rfl⟩ := List.mem_map.mp hl
          exact ⟨f, hf, hc⟩
        · rintro ⟨f, hf, hc⟩
          exact ⟨_, List.mem_map.mpr ⟨f, hf, rfl⟩, hc⟩
end
end DW
namespace DW
open PySem PySem.Spec PyProof.Rows L2 TL
set_option autoImplicit false
section
variable {P : Program} {w : World} {K : PySem.W.Frag} {mg : Str → Option Value} {base : Heap}
theorem scLaL : FnScope ["self", "product", "factor"] ["self"] (defScope sLangLetters) := ⟨rfl, rfl, rfl, by decide +kernel, rfl, by decide +kernel, by decide +kernel⟩
theorem ok_laL (D : DfC2 K mg) (Dl : Df K mg "letters_of" sLettersOf ["factors"]) (ms : mg "sorted" = none) (mt : mg "set" = none) : FnOk P w K mg base CX0 2 D.l.f D.l.fd ["self"] (spLaL K D.C) := by
  have Gl : FnOk P w K mg base CX0 1 Dl.f Dl.fd ["factors"] (spLof K) := ok_lof Dl ms mt
  refine D.l.F.ok scLaL (fun vs H Q E h => ?_) (fun cdv A outer s H vs Q E hr h => ?_)
  · obtain ⟨p, z, zs, rfl, _⟩ := h
    rfl
  · obtain ⟨p, z, zs, rfl, ⟨dx, q, ys, h1, h2, h3⟩, al, ok, fl, k⟩ := h
    have yl := h3.len
    refine ⟨_, (pss_one (ps_ret (pe_call Gl hr (by rfl) Dl.g Dl.F.kp Dl.b .nil pass0 (pa_cons (pe_lc2 (own := [("product", 1), ("factor", 2)]) (vs1 := [2]) (g := gName 1) (g1 := gName 2) (wi1 := iTup K (tVar 1)) (te := tVar 2) rfl scLaL.nd (pi_list (pe_fld (pv 0) rfl)) (blkOk_by (N := ["self", "product", "factor"]) (sc := defScope sLangLetters) (by decide +kernel)) (by decide) (fun _ _ _ _ _ => pg_name (i := 1) scLaL.nd rfl (Or.inl rfl)) (fun _ _ _ _ _ => pts_nil) (fun _ _ _ _ _ => pi_tup (pv 1)) (fun _ _ _ _ _ => pg_name (i := 2) scLaL.nd rfl (Or.inl rfl)) (fun _ _ _ _ _ => pts_nil) (fun _ _ _ _ _ => pv 2)) pa_nil)))), ?_⟩
    refine ⟨.ref p, rfl, p, D.C, dx, _, _, rfl, h1, D.cl, D.nM, flL_max _ _, q, rfl, ⟨_, SqL.of h2⟩, fun L hL => ?_⟩
    refine lc2_it (walk_list (xs := ys)) (fun i H' => ∃ xs, H' L = some (.lst xs) ∧ IsFs K H' xs (zs.take i).flatten ∧ Same H H') ⟨[], upd_same, .nil, same_upd hL⟩ (fun _ _ _ ⟨_, _, _, sm⟩ => SqL.of (sm _ _ h2)) ?_ ?_
    · rintro i x G G' hi ⟨xs, gL, iF, sm⟩ ⟨rfl, hx⟩
      obtain ⟨r, a, us, hr, rfl, ha, iR⟩ := h3.lens i x hx
      have ul := iR.len
      refine ⟨rfl, yes ⟨_, rfl, a, rfl, ⟨_, same_tup sm _ _ ha⟩, ?_⟩⟩
      refine inn_it (walk_tup (xs := us)) (fun j H' => ∃ xs, H' L = some (.lst xs) ∧ IsFs K H' xs ((zs.take i).flatten ++ r.take j) ∧ Same H H') ⟨xs, gL, by rw [List.take_zero, List.append_nil]; exact iF, sm⟩ (fun _ _ _ ⟨_, _, _, sm⟩ => same_tup sm _ _ ha) ?_ ?_
      · rintro j y F F' hj ⟨xs', gL', iF', sm'⟩ ⟨rfl, hy⟩
        obtain ⟨f, hf, isf⟩ := iR.get j y hy
        have nt : ∀ b ws, SqT K F' b ws → SqT K (upd F' L (.lst (xs' ++ [y]))) b ws := fun b ws hb => upd_lst gL' b ws hb
        refine ⟨rfl, yes ⟨_, rfl, _, gL', ?_, _, upd_same, ?_, fun b o e => (upd_ne (ne_of_none e hL)).trans (sm' _ _ e)⟩⟩
        · have := iF'.len
          have l2 := flat_len zs (i + 1)
          rw [flat_take zs hr, List.length_append] at l2
          rw [this, List.length_append, List.length_take, sizeLine_eq]
          omega
        · rw [List.take_add_one, hf, ← List.append_assoc]
          exact (iF'.mono nt).snoc ((isf.mono (same_tup sm')).mono nt)
      · rintro F ⟨xs', gL', iF', sm'⟩
        rw [ul, List.take_length, ← flat_take zs hr] at iF'
        exact ⟨xs', gL', iF', sm'⟩
    · rintro G ⟨xs, gL, iF, sm⟩
      rw [yl, List.take_length] at iF
      exact ⟨L, z, xs, zs.flatten, rfl, SqL.of gL, iF, al, fun f hf => by
        obtain ⟨q, hq, hf⟩ := List.mem_flatten.mp hf
        exact ok q hq f hf, fl, fun H' r s' lo => k _ r (sm.trans s') lo⟩
end
end DW
namespace DW
open PySem PySem.Spec PyProof.Rows L2 TL
set_option autoImplicit false
/-- the class, asked by isinstance, == and != -/
structure DfC3 (K : PySem.W.Frag) (mg : Str → Option Value) extends DfC2 K mg where
  ow : EX.OwnC K C
  kLi : EX.KtyF K "list" C
  kSt : EX.KtyF K "str" C
  kIn : EX.KtyF K "int" C
  kNo : EX.KtyF K "NoneType" C
def lform (zs : List (List Fc)) : Str := if zs = [] then "none" else Txt.join " + " (zs.map pform)
def lstr (z : Str) (zs : List (List Fc)) : Str := Str.empty ++ z ++ (": " : Str) ++ lform zs
def spFps (K : PySem.W.Frag) : Sp := fun vs H Q _ => ∃ (a : Addr) (z : Str) (xs : List V) (zs : List (List Fc)), vs = [.ref a] ∧ SqL K H a xs ∧ IsL K H xs zs ∧ Alph z ∧ (∀ q ∈ zs, ∀ f ∈ q, FOk z f) ∧ zs.flatten.length ≤ 100000 ∧ zs.length ≤ 10000 ∧ (∀ q ∈ zs, q.length ≤ 10000) ∧ ∀ H', Same H H' → Q (.str (lform zs)) H'
def spLaS (K : PySem.W.Frag) (C : Addr) : Sp := fun vs H Q _ => ∃ (p : Addr) (z : Str) (zs : List (List Fc)), vs = [.ref p] ∧ LaAt K C H p z zs ∧ Alph z ∧ (∀ q ∈ zs, ∀ f ∈ q, FOk z f) ∧ zs.flatten.length ≤ 100000 ∧ zs.length ≤ 10000 ∧ (∀ q ∈ zs, q.length ≤ 10000) ∧ ∀ H', Same H H' → Q (.str (lstr z zs)) H'
def spLaQ (K : PySem.W.Frag) (C : Addr) : Sp := fun vs H Q _ => ∃ (p : Addr) (y : V) (z : Str) (zs : List (List Fc)), vs = [.ref p, y] ∧ LaAt K C H p z zs ∧ Alph z ∧ (∀ q ∈ zs, ∀ f ∈ q, FOk z f) ∧
  ((∃ (p' : Addr) (z' : Str) (zs' : List (List Fc)), y = .ref p' ∧ LaAt K C H p' z' zs' ∧ Alph z' ∧ (∀ q ∈ zs', ∀ f ∈ q, FOk z' f) ∧ Q (.bl (decide (z = z') && decide (zs = zs'))) H) ∨
   (∃ t, TyX K H y t ∧ PySem.W.kitOne K t (.ref C) = some false ∧ Q (.bl false) H))
theorem fform_len6 {z : Str} (al : Alph z) {f : Fc} (h : FOk z f) : (fform f).length ≤ 6 := by
  have e : ∀ y : Str, y.length = (tl y).length := fun y => (Array.length_toList).symm
  have h3 : (tl f.2).length ≤ 3 := fok_len al h
  unfold fform
  split
  · rw [e, tl_app2, tl_app2, List.length_append, List.length_append]
    have e1 : (tl "{").length = 1 := by decide +kernel
    have e2 : (tl "}*").length = 2 := by decide +kernel
    omega
  · rw [e, tl_app2, List.length_append]
    have e2 : (tl "?").length = 1 := by decide +kernel
    omega
theorem pform_len {z : Str} (al : Alph z) {q : List Fc} (h : ∀ f ∈ q, FOk z f) : (pform q).length ≤ 6 * q.length + 1 := by
  have e : ∀ y : Str, y.length = (tl y).length := fun y => (Array.length_toList).symm
  unfold pform
  split
  · have : ("-" : Str).length = 1 := by decide +kernel
    omega
  · rw [e, tl_cat, List.map_map]
    have b : ∀ gs : List Fc, (∀ f ∈ gs, FOk z f) → ((gs.map (tl ∘ fform)).flatten).length ≤ 6 * gs.length := by
      intro gs
      induction gs with
      | nil => intro _; exact Nat.le_refl _
      | cons g gs ih =>
        intro hg
        have h1 := fform_len6 al (hg g List.mem_cons_self)
        have h2 := ih fun f hf => hg f (List.mem_cons_of_mem _ hf)
        rw [e] at h1
        rw [List.map_cons, List.flatten_cons, List.length_append, List.length_cons]
        have h3 : ((tl ∘ fform) g).length ≤ 6 := h1
        omega
    have := b q h
    omega
theorem pforms_len {z : Str} (al : Alph z) : ∀ zs : List (List Fc), (∀ q ∈ zs, ∀ f ∈ q, FOk z f) → ((zs.map pform).map (·.length)).sum ≤ 6 * zs.flatten.length + zs.length
  | [], _ => Nat.le_refl _
  | q :: zs, h => by
    have h1 := pform_len al (h q List.mem_cons_self)
    have h2 := pforms_len al zs fun r hr => h r (List.mem_cons_of_mem _ hr)
    rw [List.map_cons, List.map_cons, List.sum_cons, List.flatten_cons, List.length_append, List.length_cons]
    omega
theorem joinL_len (S : List Nat) : ∀ xs : List (List Nat), (joinL S xs).length ≤ (xs.map List.length).sum + xs.length * S.length
  | [] => Nat.zero_le _
  | [p] => by
    show p.length ≤ p.length + 0 + 1 * S.length
    omega
  | p :: q :: r => by
    have ih := joinL_len S (q :: r)
    rw [joinL, List.length_append, List.length_append, List.map_cons, List.sum_cons, List.length_cons, Nat.succ_mul]
    omega
theorem tl_joinS (sep : Str) (xs : List Str) : tl (Txt.join sep xs) = joinL (tl sep) (xs.map tl) := by
  have e : tl (Str.join sep xs) = joinL (tl sep) (xs.map tl) := tl_join sep xs
  rw [join_eq, e]
theorem lform_len {z : Str} (al : Alph z) {zs : List (List Fc)} (ok : ∀ q ∈ zs, ∀ f ∈ q, FOk z f) : (lform zs).length ≤ 6 * zs.flatten.length + 4 * zs.length + 4 := by
  have e : ∀ y : Str, y.length = (tl y).length := fun y => (Array.length_toList).symm
  unfold lform
  split
  · have : ("none" : Str).length = 4 := by decide +kernel
    omega
  · rw [e, tl_joinS]
    have h1 := joinL_len (tl " + ") ((zs.map pform).map tl)
    have h2 := pforms_len al zs ok
    have e3 : (tl " + ").length = 3 := by decide +kernel
    have e4 : (((zs.map pform).map tl).map List.length) = (zs.map pform).map (·.length) := by
      rw [List.map_map]
      exact List.map_congr_left fun y _ => (e y).symm
    rw [e4, e3, List.length_map, List.length_map] at h1
    omega
section
variable {P : Program} {w : World} {K : PySem.W.Frag} {mg : Str → Option Value} {base : Heap}
/-- what format_products needs -/
structure DfFps (K : PySem.W.Frag) (mg : Str → Option Value) where
  s : Df K mg "format_products" sFormatProducts ["products"]
  p : Df K mg "format_product" sFormatProduct ["product"]
  f : Df K mg "format_factor" sFormatFactor ["factor"]
  ml : mg "len" = none
  me : ∃ t, mg "EMPTY_FORM" = some (.str "-" t)
  mn : ∃ t, mg "NO_WORDS" = some (.str "none" t)
end
end DW
namespace DW
open PySem PySem.Spec PyProof.Rows L2 TL
set_option autoImplicit false
section
variable {P : Program} {w : World} {K : PySem.W.Frag} {mg : Str → Option Value} {base : Heap}
theorem scLaQ : FnScope ["self", "other"] ["self", "other"] (defScope sLangEq) := ⟨rfl, rfl, rfl, by decide +kernel, rfl, by decide +kernel, by decide +kernel⟩
theorem ok_laQ (D : DfC3 K mg) (mi : mg "isinstance" = none) : FnOk P w K mg base CX0 1 D.q.f D.q.fd ["self", "other"] (spLaQ K D.C) := by
  refine D.q.F.ok scLaQ (fun vs H Q E h => ?_) (fun cdv A outer s H vs Q E hr h => ?_)
  · obtain ⟨p, y, z, zs, rfl, _⟩ := h
    rfl
  · obtain ⟨p, y, z, zs, rfl, ⟨dx, q, ys, h1, h2, h3⟩, al, ok, hy⟩ := h
    refine ⟨_, (pss_one (ps_ret (pe_and (pe_callB call_isi (by rfl) mi (by decide +kernel) (pa_cons (pv 1) (pa_cons (pe_glob (v := V.ref D.C) (by rfl) D.g rfl) pa_nil))) (pe_and (pe_cmpR op_eq (pe_fld (pv 0) rfl) (pe_fld (pv 1) rfl) (nomark _)) (pe_one (pe_cmpR (op_eqD hr.units) (pe_fld (pv 0) rfl) (pe_fld (pv 1) rfl) (nomark _))))))), ?_⟩
    rcases hy with ⟨p', z', zs', rfl, ⟨dx', q', ys', g1, g2, g3⟩, al', ok', k⟩ | ⟨t, ty, ki, k⟩
    · refine ⟨.ref p', rfl, .ref p', .ref D.C, .ref D.C, .ref D.C, true, rfl, .own _, .base (TyOf.ins g1 D.cl D.ow.ha D.ow.hn D.ow.ht D.ow.hm), D.ow.me, true, rfl, iteT ?_⟩
      refine ⟨.ref p, rfl, p, D.C, dx, _, _, rfl, h1, D.cl, D.nB, flL_base _ _, .ref p', rfl, p', D.C, dx', _, _, rfl, g1, D.cl, D.nB, flL_base _ _, rfl, _, rfl, ?_⟩
      have e1 : decide (V.str z = V.str z') = decide (z = z') := by
        rw [Bool.eq_iff_iff, decide_eq_true_eq, decide_eq_true_eq]
        exact ⟨V.str.inj, congrArg V.str⟩
      rw [e1]
      cases ez : decide (z = z') with
      | false =>
        rw [ez, Bool.false_and] at k
        exact iteF k
      | true =>
        rw [ez, Bool.true_and] at k
        refine iteT ⟨.ref p, rfl, p, D.C, dx, _, _, rfl, h1, D.cl, D.nM, flL_max _ _, .ref p', rfl, p', D.C, dx', _, _, rfl, g1, D.cl, D.nM, flL_max _ _, .list (zs.map pD), .list (zs'.map pD), .lst (SqL.of h2) h3.dp, .lst (SqL.of g2) g3.dp, ps_shaped al ok, ps_shaped al' ok', ?_⟩
        rw [pl_eqv]
        exact k
    · exact ⟨y, rfl, y, .ref D.C, t, .ref D.C, false, rfl, .own _, ty, ki, false, rfl, iteF k⟩
end
end DW
/-! lists of maximal products: what laws of operations want -/
namespace DW
open PySem PySem.Spec PyProof.Rows L2 TL
set_option autoImplicit false
theorem MaxOf.few {z : Str} (al : Alph z) {ps zs : List (List Fc)} (M : MaxOf ps zs) (ok : ∀ p ∈ ps, ∀ f ∈ p, FOk z f) : zs.length ≤ ps.length := by
  have q := nodup_len zs (ps.map red) (M.anti al ok).2 fun x hx => by
    obtain ⟨p, hp, e⟩ := M.sub x hx
    rw [e]
    exact List.mem_map_of_mem hp
  rw [List.length_map] at q
  exact q
theorem MaxOf.short {ps zs : List (List Fc)} (M : MaxOf ps zs) {n : Nat} (h : ∀ p ∈ ps, p.length ≤ n) : ∀ q ∈ zs, q.length ≤ n := fun q hq => by
  obtain ⟨p, hp, e⟩ := M.sub q hq
  rw [e]
  exact Nat.le_trans (red_le p) (h p hp)
theorem hasW_iff {zs : List (List Fc)} (wz : ∀ q ∈ zs, W1 q) (u : List Nat) : hasW zs u = true ↔ ∃ q ∈ zs, Lg q u := by
  unfold hasW
  rw [List.any_eq_true]
  constructor
  · rintro ⟨q, hq, h⟩
    exact ⟨q, hq, (acc_iff (wz q hq) u).mp h⟩
  · rintro ⟨q, hq, h⟩
    exact ⟨q, hq, (acc_iff (wz q hq) u).mpr h⟩
theorem ex_app {ps qs : List (List Fc)} {u : List Nat} : (∃ p ∈ ps ++ qs, Lg p u) ↔ (∃ p ∈ ps, Lg p u) ∨ ∃ p ∈ qs, Lg p u := by
  constructor
  · rintro ⟨p, hp, h⟩
    rcases List.mem_append.mp hp with e | e
    · exact .inl ⟨p, e, h⟩
    · exact .inr ⟨p, e, h⟩
  · rintro (⟨p, hp, h⟩ | ⟨p, hp, h⟩)
    · exact ⟨p, List.mem_append_left _ hp, h⟩
    · exact ⟨p, List.mem_append_right _ hp, h⟩
theorem nf_self {K : PySem.W.Frag} {C : Addr} : PySem.W.notFirst K C (.ref C) = true := by
  unfold PySem.W.notFirst
  simp
end DW
namespace DW
open PySem PySem.Spec PyProof.Rows L2 TL
set_option autoImplicit false
/-- the list that stands for a language -/
structure Can (z : Str) (zs : List (List Fc)) : Prop where
  rz : ∀ q ∈ zs, Rz z q
  an : Anti zs
  nd : zs.Nodup
  so : zs.Pairwise fun x y => tl (pform x) ≤ tl (pform y)
theorem MaxOf.can {z : Str} (al : Alph z) {ps zs : List (List Fc)} (M : MaxOf ps zs) (ok : ∀ p ∈ ps, ∀ f ∈ p, FOk z f) : Can z zs := ⟨M.rz ok, (M.anti al ok).1, (M.anti al ok).2, M.sorted⟩
end DW
/-! reversals and derivatives: the maths -/
namespace DW
open PySem PySem.Spec PyProof.Rows L2 TL
set_option autoImplicit false
theorem Lg.rev {p : List Fc} {u : List Nat} (h : Lg p u) : Lg p.reverse u.reverse := by
  induction h with
  | nil => exact .nil
  | skip h ih =>
    rw [List.reverse_cons]
    exact Lg.snoc.mpr (.inl ih)
  | opt k m h ih =>
    rw [List.reverse_cons, List.reverse_cons]
    exact Lg.snoc.mpr (.inr ⟨_, _, rfl, m, by rw [if_neg (by simp [k])]; exact ih⟩)
  | star k m h ih =>
    rw [List.reverse_cons, List.reverse_cons]
    rw [List.reverse_cons] at ih
    exact Lg.snoc.mpr (.inr ⟨_, _, rfl, m, by rw [if_pos k]; exact ih⟩)
theorem lg_rev {p : List Fc} {u : List Nat} : Lg p.reverse u ↔ Lg p u.reverse := by
  constructor <;> intro h
  · have := h.rev
    rwa [List.reverse_reverse] at this
  · have := h.rev
    rwa [List.reverse_reverse] at this
theorem inc_lang {p q : List Fc} (wp : W1 p) (wq : W1 q) : inc q p = true ↔ ∀ u, Lg p u → Lg q u :=
  ⟨fun h u => inc_sound q p h u, fun h => inc_complete (q.length + 1) p q wp wq (by omega) (h _ (Lg.unf _ p fun f hf => (wp f hf).2))⟩
theorem w1_rev {p : List Fc} (h : W1 p) : W1 p.reverse := fun f hf => h f (List.mem_reverse.mp hf)
theorem inc_rev {p q : List Fc} (wp : W1 p) (wq : W1 q) (h : inc q.reverse p.reverse = true) : inc q p = true := by
  rw [inc_lang (w1_rev wp) (w1_rev wq)] at h
  rw [inc_lang wp wq]
  intro u hu
  have := h u.reverse (lg_rev.mpr (by rwa [List.reverse_reverse]))
  have := lg_rev.mp this
  rwa [List.reverse_reverse] at this
abbrev leP (x y : List Fc) : Bool := decide (tl (pform x) ≤ tl (pform y))
theorem bw_sorted (qs : List (List Fc)) : (qs.mergeSort leP).Pairwise fun x y => tl (pform x) ≤ tl (pform y) := by
  have p := List.pairwise_mergeSort (le := leP) (fun a b c h1 h2 => decide_eq_true (List.le_trans (of_decide_eq_true h1) (of_decide_eq_true h2))) (fun a b => by
    rcases List.le_total (tl (pform a)) (tl (pform b)) with h | h
    · rw [leP, decide_eq_true h]; rfl
    · rw [leP, leP, decide_eq_true h, Bool.or_true]) qs
  exact p.imp fun h => of_decide_eq_true h
/-- an antichain of reduced products, sorted -/
theorem can_of {z : Str} {qs : List (List Fc)} (rz : ∀ q ∈ qs, Rz z q) (an : Anti qs) (nd : qs.Nodup) : Can z (qs.mergeSort leP) := by
  have pm := List.mergeSort_perm qs leP
  exact ⟨fun q hq => rz q (pm.mem_iff.mp hq), fun a ha b hb => an a (pm.mem_iff.mp ha) b (pm.mem_iff.mp hb), pm.nodup_iff.mpr nd, bw_sorted qs⟩
theorem rz_rev {z : Str} {q : List Fc} (h : Rz z q) : Rz z q.reverse := ⟨fun f hf => h.ok f (List.mem_reverse.mp hf), h.ap.rev⟩
theorem Can.rev {z : Str} {zs : List (List Fc)} (C : Can z zs) : Can z ((zs.map List.reverse).mergeSort leP) := by
  refine can_of (fun q hq => ?_) (fun a ha b hb h => ?_) ?_
  · obtain ⟨p, hp, rfl⟩ := List.mem_map.mp hq
    exact rz_rev (C.rz p hp)
  · obtain ⟨p, hp, rfl⟩ := List.mem_map.mp ha
    obtain ⟨q, hq, rfl⟩ := List.mem_map.mp hb
    rw [C.an p hp q hq (inc_rev (fok_w1 (C.rz q hq).ok) (fok_w1 (C.rz p hp).ok) h)]
  · refine List.nodup_iff_pairwise_ne.mpr (List.pairwise_map.mpr ((List.nodup_iff_pairwise_ne.mp C.nd).imp fun h e => h ?_))
    have := congrArg List.reverse e
    rwa [List.reverse_reverse, List.reverse_reverse] at this
/-- the words of lists of products -/
theorem ex_perm {ps qs : List (List Fc)} (h : ps.Perm qs) (u : List Nat) : (∃ p ∈ ps, Lg p u) ↔ ∃ p ∈ qs, Lg p u := ⟨fun ⟨p, hp, l⟩ => ⟨p, h.mem_iff.mp hp, l⟩, fun ⟨p, hp, l⟩ => ⟨p, h.mem_iff.mpr hp, l⟩⟩
theorem ex_rev {ps : List (List Fc)} (u : List Nat) : (∃ p ∈ ps.map List.reverse, Lg p u) ↔ ∃ p ∈ ps, Lg p u.reverse := by
  constructor
  · rintro ⟨p, hp, h⟩
    obtain ⟨q, hq, rfl⟩ := List.mem_map.mp hp
    exact ⟨q, hq, lg_rev.mp h⟩
  · rintro ⟨p, hp, h⟩
    exact ⟨p.reverse, List.mem_map_of_mem hp, lg_rev.mpr h⟩
/-! ### derivatives -/
theorem cov_ch {g : Fc} (h : ls g ≠ [] ∧ (g.1 = false → (ls g).length = 1)) (c : Nat) : cov g (false, one c) = true ↔ c ∈ ls g := by
  unfold cov
  rw [Bool.or_eq_true, decide_eq_true_eq]
  constructor
  · rintro (e | e)
    · subst e
      exact List.mem_singleton.mpr rfl
    · exact sw_sub e c (List.mem_singleton.mpr rfl)
  · intro m
    by_cases k : g.1 = true
    · exact .inr (sw_of k fun d hd => by rw [List.mem_singleton.mp hd]; exact m)
    · have k : g.1 = false := by simpa using k
      left
      have l1 := h.2 k
      obtain ⟨x, hx⟩ := List.length_eq_one_iff.mp l1
      rw [hx] at m
      have : g.2 = one c := tl_inj (by rw [show tl g.2 = [x] from hx, tl_one, List.mem_singleton.mp m])
      exact Prod.ext k this
theorem lg_star {g : Fc} {q : List Fc} {c : Nat} {x : List Nat} (k : g.1 = true) (m : c ∈ ls g) : Lg (g :: q) (c :: x) ↔ Lg (g :: q) x := ⟨Lg.tail, .star k m⟩
theorem lg_opt {g : Fc} {q : List Fc} {c : Nat} {x : List Nat} (k : g.1 = false) (m : c ∈ ls g) : Lg (g :: q) (c :: x) ↔ Lg q x := by
  constructor
  · intro h
    cases h with
    | skip h => exact h.tail
    | opt _ _ h => exact h
    | star k' _ _ => rw [k] at k'; cases k'
  · exact .opt k m
theorem lg_not {g : Fc} {q : List Fc} {c : Nat} {x : List Nat} (m : c ∉ ls g) : Lg (g :: q) (c :: x) ↔ Lg q (c :: x) := by
  constructor
  · intro h
    cases h with
    | skip h => exact h
    | opt _ m' _ => exact absurd m' m
    | star _ m' _ => exact absurd m' m
  · exact .skip
theorem rst_word : ∀ (w : List Nat) (q : List Fc), W1 q → ∀ u, Lg q (w ++ u) ↔ ∃ r, rst q (ones w) = some r ∧ Lg r u
  | [], q, _, u => by
    rw [show ones [] = [] from rfl, rst_nil]
    exact ⟨fun h => ⟨q, rfl, h⟩, fun ⟨r, e, h⟩ => by cases e; exact h⟩
  | c :: w, [], _, u => by
    rw [show ones (c :: w) = (false, one c) :: ones w from rfl, rst_none]
    exact ⟨fun h => (nomatch h), fun ⟨r, e, h⟩ => (nomatch e)⟩
  | c :: w, g :: q, wq, u => by
    have wq' : W1 q := fun f hf => wq f (List.mem_cons_of_mem _ hf)
    have hg := wq g List.mem_cons_self
    rw [show ones (c :: w) = (false, one c) :: ones w from rfl, rst_cons, List.cons_append]
    by_cases m : c ∈ ls g
    · rw [if_pos ((cov_ch hg c).mpr m)]
      by_cases k : g.1 = true
      · rw [if_pos k, lg_star k m]
        exact rst_word w (g :: q) wq u
      · rw [if_neg k, lg_opt (by simpa using k) m]
        exact rst_word w q wq' u
    · rw [if_neg fun e => m ((cov_ch hg c).mp e), lg_not m, ← List.cons_append]
      exact rst_word (c :: w) q wq' u
termination_by w q => w.length + q.length
theorem rst_suf : ∀ (q p r : List Fc), rst q p = some r → r <:+ q
  | q, [], r, h => by
    rw [rst_nil] at h
    cases h
    exact List.suffix_refl q
  | [], f :: p, r, h => by
    rw [rst_none] at h
    cases h
  | g :: q, f :: p, r, h => by
    rw [rst_cons] at h
    by_cases c : cov g f = true
    · rw [if_pos c] at h
      by_cases k : g.1 = true
      · rw [if_pos k] at h
        exact rst_suf (g :: q) p r h
      · rw [if_neg k] at h
        exact (rst_suf q p r h).trans (List.suffix_cons g q)
    · rw [if_neg c] at h
      exact (rst_suf q (f :: p) r h).trans (List.suffix_cons g q)
termination_by q p => q.length + p.length
theorem suf_drop {r q : List Fc} (h : r <:+ q) : q.drop (q.length - r.length) = r := by
  obtain ⟨a, rfl⟩ := h
  rw [List.length_append, Nat.add_sub_cancel, List.drop_left]
/-- what is left of products behind another one -/
def rsts (zs : List (List Fc)) (p : List Fc) : List (List Fc) := zs.filterMap fun q => rst q p
theorem rsts_mem {zs : List (List Fc)} {p r : List Fc} (h : r ∈ rsts zs p) : ∃ q ∈ zs, rst q p = some r := by
  obtain ⟨q, hq, e⟩ := List.mem_filterMap.mp h
  exact ⟨q, hq, e⟩
theorem rsts_ok {z : Str} {zs : List (List Fc)} {p : List Fc} (ok : ∀ q ∈ zs, ∀ f ∈ q, FOk z f) : ∀ r ∈ rsts zs p, ∀ f ∈ r, FOk z f := fun r hr f hf => by
  obtain ⟨q, hq, e⟩ := rsts_mem hr
  exact ok q hq f ((rst_suf q p r e).subset hf)
theorem rsts_len {n : Nat} {zs : List (List Fc)} {p : List Fc} (ok : ∀ q ∈ zs, q.length ≤ n) : ∀ r ∈ rsts zs p, r.length ≤ n := fun r hr => by
  obtain ⟨q, hq, e⟩ := rsts_mem hr
  exact Nat.le_trans (rst_suf q p r e).length_le (ok q hq)
theorem rsts_few (zs : List (List Fc)) (p : List Fc) : (rsts zs p).length ≤ zs.length := List.length_filterMap_le _ _
theorem rsts_word {zs : List (List Fc)} (wz : ∀ q ∈ zs, W1 q) (w u : List Nat) : (∃ r ∈ rsts zs (ones w), Lg r u) ↔ ∃ q ∈ zs, Lg q (w ++ u) := by
  constructor
  · rintro ⟨r, hr, h⟩
    obtain ⟨q, hq, e⟩ := rsts_mem hr
    exact ⟨q, hq, (rst_word w q (wz q hq) u).mpr ⟨r, e, h⟩⟩
  · rintro ⟨q, hq, h⟩
    obtain ⟨r, e, h⟩ := (rst_word w q (wz q hq) u).mp h
    exact ⟨r, List.mem_filterMap.mpr ⟨q, hq, e⟩, h⟩
theorem rsts_nil (zs : List (List Fc)) : rsts zs [] = zs := by
  unfold rsts
  induction zs with
  | nil => rfl
  | cons q r ih => rw [List.filterMap_cons, rst_nil, ih]
end DW
/-! the rest behind two products -/
namespace DW
open PySem PySem.Spec PyProof.Rows L2 TL
set_option autoImplicit false
theorem rst_app : ∀ (a b q : List Fc), rst q (a ++ b) = (rst q a).bind fun r => rst r b
  | [], b, q => by rw [List.nil_append, rst_nil]; rfl
  | f :: a, b, [] => by rw [List.cons_append, rst_none, rst_none]; rfl
  | f :: a, b, g :: q => by
    rw [List.cons_append, rst_cons, rst_cons]
    by_cases c : cov g f = true
    · rw [if_pos c, if_pos c]
      by_cases k : g.1 = true
      · rw [if_pos k, if_pos k]
        exact rst_app a b (g :: q)
      · rw [if_neg k, if_neg k]
        exact rst_app a b q
    · rw [if_neg c, if_neg c]
      have := rst_app (f :: a) b q
      rw [List.cons_append] at this
      exact this
termination_by a b q => a.length + q.length
end DW
/-! one product inside a language; one list for each language -/
namespace DW
open PySem PySem.Spec PyProof.Rows L2 TL
set_option autoImplicit false
theorem into_any {z : Str} {q : List Fc} {zs : List (List Fc)} (wq : W1 q) (rz : ∀ q ∈ zs, Rz z q) (h : ∀ u, Lg q u → ∃ r ∈ zs, Lg r u) : ∃ q' ∈ zs, inc q' q = true := by
  obtain ⟨q', hq', l⟩ := h _ (Lg.unf ((zs.map List.length).sum + 1) q fun f hf => (wq f hf).2)
  exact ⟨q', hq', inc_complete _ q q' wq (fok_w1 (rz q' hq').ok) (by have := len_sum zs q' hq'; omega) l⟩
theorem can_uniq2 {z : Str} (al : Alph z) {as bs : List (List Fc)} (A : Can z as) (B : Can z bs) (h : ∀ u, (∃ q ∈ as, Lg q u) ↔ ∃ q ∈ bs, Lg q u) : as = bs := by
  have one : ∀ {as bs : List (List Fc)}, Can z as → Can z bs → (∀ u, (∃ q ∈ as, Lg q u) ↔ ∃ q ∈ bs, Lg q u) → ∀ x, x ∈ as → x ∈ bs := fun {as bs} A B h x hx => by
    have wx := fok_w1 (A.rz x hx).ok
    obtain ⟨y, hy, i1⟩ := into_any wx B.rz fun u hu => (h u).mp ⟨x, hx, hu⟩
    obtain ⟨x', hx', i2⟩ := into_any (fok_w1 (B.rz y hy).ok) A.rz fun u hu => (h u).mpr ⟨y, hy, hu⟩
    have e := A.an x' hx' x hx (inc_trans (fok_w1 (A.rz x' hx').ok) wx i2 i1)
    rw [← e] at i2
    rw [inc_anti al (A.rz x hx) (B.rz y hy) i2 i1]
    exact hy
  exact sorted_uniq (le := fun x y => tl (pform x) ≤ tl (pform y)) as bs (fun a ha b hb l1 l2 => pform_inj al (A.rz a ha).ok (A.rz b hb).ok (List.le_antisymm l1 l2)) A.so B.so A.nd B.nd fun x => ⟨one A B h x, one B A (fun u => (h u).symm) x⟩
end DW
/-! letters_of a tuple -/
namespace DW
open PySem PySem.Spec PyProof.Rows L2 TL
set_option autoImplicit false
def spLofT (K : PySem.W.Frag) : Sp := fun vs H Q _ => ∃ (a : Addr) (x : Str) (xs : List V) (fs : List Fc), vs = [.ref a] ∧ SqT K H a xs ∧ IsFs K H xs fs ∧ (∀ f ∈ fs, ∀ c ∈ ls f, c ∈ tl x) ∧ (tl x).length ≤ 60 ∧ fs.length ≤ 60 ∧ ((fs.map ls).flatten).length ≤ 60 ∧
  ∀ H' y, Same H H' → LtOf fs y → Q (.str y) H'
section
variable {P : Program} {w : World} {K : PySem.W.Frag} {mg : Str → Option Value} {base : Heap}
theorem scLofT : FnScope ["factors", "kind", "letters"] ["factors"] (defScope sLettersOf) := ⟨rfl, rfl, rfl, by decide +kernel, rfl, by decide +kernel, by decide +kernel⟩
theorem ok_lofT (D : Df K mg "letters_of" sLettersOf ["factors"]) (ms : mg "sorted" = none) (mt : mg "set" = none) : FnOk P w K mg base CX0 1 D.f D.fd ["factors"] (spLofT K) := by
  refine D.F.ok scLofT (fun vs H Q E h => ?_) (fun cdv A outer s H vs Q E hr h => ?_)
  · obtain ⟨a, z, xs, fs, rfl, _⟩ := h
    rfl
  · obtain ⟨a, x, xs, fs, rfl, ha, iF, sub, x60, f60, big60, k⟩ := h
    have xl := iF.len
    have sl := sizeLine_eq
    have sz : ∀ y : Str, y.length = (tl y).length := fun y => (Array.length_toList).symm
    refine ⟨_, (pss_one (ps_ret (pe_join pe_str (pe_callB (TX.cr_sortTx rfl) (by rfl) ms (by decide +kernel) (pa_cons (pe_callTy (TX.cr_setT rfl) (by rfl) mt (by decide +kernel) (pa_cons (pe_join pe_str (pe_lc (own := [("kind", 1), ("letters", 2)]) (g := gTup K 2 (gCons (gName 1) (gCons (gName 2) gNil))) rfl scLofT.nd (pi_tup (pv 0)) (blkOk_by (N := ["factors", "kind", "letters"]) (sc := defScope sLettersOf) (by decide +kernel)) (fun _ _ _ _ _ => (pg_tup rfl (pgs_cons (pg_name (i := 1) scLofT.nd rfl (.inl rfl)) (pgs_cons (pg_name (i := 2) scLofT.nd rfl (.inl rfl)) pgs_nil)))) (fun _ _ _ _ _ => pts_nil) (fun _ _ _ _ _ => (pv 2)))) pa_nil)) pa_nil))))), ?_⟩
    refine ⟨⟨_, rfl⟩, ⟨_, rfl⟩, .ref a, rfl, a, rfl, ⟨_, ha⟩, fun L hL => ?_⟩
    refine lc_it (walk_tup (xs := xs)) (fun i H' => H' L = some (.lst ((fs.take i).map fun f => V.str f.2)) ∧ Same H H') ⟨upd_same, same_upd hL⟩ (fun _ _ _ ⟨_, sm⟩ => same_tup sm _ _ ha) ?_ ?_
    · rintro i y G G' hi ⟨gL, sm⟩ ⟨rfl, hx⟩
      obtain ⟨f, hf, b, rfl, isf⟩ := iF.get i y hx
      refine ⟨b, _, rfl, same_tup sm _ _ isf, rfl, _, _, rfl, _, _, rfl, rfl, rfl, yes ⟨_, rfl, _, gL, ?_, ?_, fun b o e => (upd_ne (ne_of_none e hL)).trans (sm _ _ e)⟩⟩
      · rw [List.length_map, List.length_take]
        omega
      · rw [upd_same, List.take_add_one, hf, List.map_append]
        rfl
    · rintro G ⟨gL, sm⟩
      rw [xl, List.take_length] at gL
      have e1 : (fs.map fun f => V.str f.2) = (fs.map fun f => f.2).map V.str := by rw [List.map_map]; rfl
      rw [e1] at gL
      have e0 : ("" : Str).length = 0 := rfl
      have tj : tl (Txt.join "" (fs.map fun f => f.2)) = (fs.map ls).flatten := by rw [tl_cat, List.map_map]; rfl
      have bd : ((fs.map fun f => f.2).map (·.length)).sum = ((fs.map ls).flatten).length := by
        rw [List.length_flatten, List.map_map, List.map_map]
        exact congrArg List.sum (List.map_congr_left fun f _ => sz _)
      refine ⟨"", L, fs.map fun f => f.2, rfl, rfl, .inl (SqL.of gL), by rw [e0, Nat.mul_zero, bd]; omega, ?_⟩
      have tlen : (tl (Txt.join "" (fs.map fun f => f.2))).length ≤ 60 := by rw [tj]; exact big60
      generalize Txt.join "" (fs.map fun f => f.2) = big at tj tlen ⊢
      refine ⟨big, rfl, by rw [sz]; unfold scanBound; omega, fun a2 ks ha2 nd mem le => ?_⟩
      have s2 := same_upd (o := TX.SetTx P w a2 ks) ha2
      have kl : ks.length ≤ 60 := by
        have sub : ∀ k ∈ ks, k ∈ (tl x).map one := fun k hk => by
          obtain ⟨c, hc, e⟩ := signs_mem.mp ((mem k).mp hk)
          rw [tj] at hc
          obtain ⟨l, hl, hc⟩ := List.mem_flatten.mp hc
          obtain ⟨f, hf, rfl⟩ := List.mem_map.mp hl
          exact List.mem_map.mpr ⟨c, sub f hf c hc, e.symm⟩
        have := nodup_len ks _ nd sub
        rw [List.length_map] at this
        exact Nat.le_trans this x60
      refine ⟨a2, ks, rfl, upd_same, by omega, fun ys p pm so hp => ?_⟩
      have s3 := same_upd (o := .lst (ys.map V.str)) hp
      obtain ⟨pw, mc, on⟩ := set_lets nd mem pm so
      refine ⟨"", p, ys, rfl, rfl, .inl (SqL.of upd_same), ?_, k _ _ ((sm.trans s2).trans s3) ⟨pw, fun c => ?_⟩⟩
      · rw [sum_ones ys on, pm.length_eq, e0, Nat.mul_zero]
        omega
      · rw [mc, tj, List.mem_flatten]
        constructor
        · rintro ⟨l, hl, hc⟩
          obtain ⟨f, hf, rfl⟩ := List.mem_map.mp hl
          exact ⟨f, hf, hc⟩
        · rintro ⟨f, hf, hc⟩
          exact ⟨_, List.mem_map.mpr ⟨f, hf, rfl⟩, hc⟩
end
end DW
/-! by_written_form of a dict -/
namespace DW
open PySem PySem.Spec PyProof.Rows L2 TL
set_option autoImplicit false
open ND (Ent DO KOks NK NKs valN putN setN keyVs)
def spBwD (P : Program) (w : World) (K : PySem.W.Frag) : Sp := fun vs H Q _ => ∃ (d : Addr) (kvs : List Ent) (qs : List (List Fc)), vs = [.ref d] ∧ Rd H d (DO P w d kvs) ∧ RW K H kvs qs ∧ (∀ q ∈ qs, (∀ f ∈ q, (ls f).length ≤ 1000) ∧ q.length ≤ 10000) ∧
  ∀ H' p ys, Same H H' → H p = none → H' p = some (.lst ys) → IsL K H' ys (qs.mergeSort fun x y => decide (tl (pform x) ≤ tl (pform y))) → Q (.ref p) H'
section
variable {P : Program} {w : World} {K : PySem.W.Frag} {H H' : Hp}
theorem same_rd2 (s : Same H H') {a : Addr} {u : HO} (h : Rd H a u) : Rd H' a u := by
  rcases h with h | ⟨o, h⟩
  · exact .inl (s _ _ h)
  · exact .inr ⟨o, s _ _ h⟩
theorem RW.has {kvs : List Ent} {R : List (List Fc)} (h : RW K H kvs R) (p : List Fc) : (valN kvs (prodKey p)).isSome = true ↔ p ∈ R := by
  constructor
  · intro q
    obtain ⟨v, e⟩ := Option.isSome_iff_exists.mp q
    obtain ⟨j, e, hj, ek, _⟩ := valN_some e
    obtain ⟨r, hr, e1⟩ := h.key hj
    rw [e1] at ek
    rw [← prodKey_inj ek]
    exact List.mem_of_getElem? hr
  · intro hp
    cases e : valN kvs (prodKey p) with
    | some v => rfl
    | none =>
      have : prodKey p ∈ kvs.map (·.1) := by
        rw [h.keys]
        exact List.mem_map.mpr ⟨p, hp, rfl⟩
      obtain ⟨x, hx, ex⟩ := List.mem_map.mp this
      exact absurd ex (valN_none e x hx)
end
section
variable {P : Program} {w : World} {K : PySem.W.Frag} {mg : Str → Option Value} {base : Heap}
theorem ok_bwd (D : DfBw K mg) : FnOk P w K mg base CX0 5 D.b.f D.b.fd ["products"] (spBwD P w K) := by
  have Gp : FnOk P w K mg base CX0 2 D.p.f D.p.fd ["product"] (spFp K) := ok_fp D.p D.f D.ml D.me
  refine D.b.F.ok scBw (fun vs H Q E h => ?_) (fun cdv A outer s H vs Q E hr h => ?_)
  · obtain ⟨d, kvs, qs, rfl, _⟩ := h
    rfl
  · obtain ⟨d, kvs, qs, rfl, hd, rw0, lq, k⟩ := h
    refine ⟨_, (pss_one (ps_ret (ND.pe_sortedDFn rfl Gp hr D.p.b (by rfl) D.ms (by rfl) D.p.g (pa_cons (pv 0) pa_nil)))), ?_⟩
    refine ⟨.ref d, rfl, fun ti => ?_⟩
    have iL := rw0.isl
    obtain ⟨g, hg⟩ := form_of iL (isP_inj ti)
    refine ⟨d, kvs, g, rfl, hd, fun x hx H' sm => ?_, fun H2 p sm hn hp => ?_⟩
    · obtain ⟨i, hi⟩ := List.getElem?_of_mem hx
      obtain ⟨q, hq, isq⟩ := iL.get i x hi
      obtain ⟨l1, l2⟩ := lq q (List.mem_of_getElem? hq)
      exact ⟨x, q, rfl, isq.mono (same_tup sm), l1, l2, fun H2 s2 => ⟨by rw [hg i x q hi hq], s2⟩⟩
    · exact k H2 p _ sm hn hp ((iL.mono (same_tup sm)).sorted hg)
end
end DW
/-! language_of_maximal -/
namespace DW
open PySem PySem.Spec PyProof.Rows L2 TL
set_option autoImplicit false
theorem flL_put (z : Str) (q l : Addr) : putF "maximal" (.ref l) (flL z q) = flL z l := by
  have n : ¬ (("base" : Str) = "maximal") := by decide +kernel
  have e0 : ∀ v, putF "maximal" v [(("base" : Str), V.str z)] = [(("base" : Str), V.str z), (("maximal" : Str), v)] := fun v => by
    show (if ("base" : Str) = "maximal" then _ else _) = _
    rw [if_neg n]
    rfl
  have e1 : ∀ a : Addr, flL z a = [(("base" : Str), V.str z), (("maximal" : Str), V.ref a)] := fun a => e0 _
  rw [e1, e1]
  show (if ("base" : Str) = "maximal" then _ else _) = _
  rw [if_neg n]
  show _ :: (if ("maximal" : Str) = "maximal" then _ else _) = _
  rw [if_pos rfl]
/-- a Language that is new, and its list too -/
def LaNew (K : PySem.W.Frag) (C : Addr) (H H' : Hp) (x : Addr) (z : Str) (zs : List (List Fc)) : Prop := ∃ dx q ys, H' x = some (.ins C dx (flL z q)) ∧ H' q = some (.lst ys) ∧ IsL K H' ys zs ∧ H q = none ∧ H x = none
theorem LaNew.at {K : PySem.W.Frag} {C : Addr} {H H' : Hp} {x : Addr} {z : Str} {zs : List (List Fc)} (h : LaNew K C H H' x z zs) : LaAt K C H' x z zs := by
  obtain ⟨dx, q, ys, h1, h2, h3, _⟩ := h
  exact ⟨dx, q, ys, h1, h2, h3⟩
theorem LaNew.pre {K : PySem.W.Frag} {C : Addr} {H0 H H' : Hp} {x : Addr} {z : Str} {zs : List (List Fc)} (s : Same H0 H) (h : LaNew K C H H' x z zs) : LaNew K C H0 H' x z zs := by
  obtain ⟨dx, q, ys, h1, h2, h3, h4, h5⟩ := h
  exact ⟨dx, q, ys, h1, h2, h3, s.free h4, s.free h5⟩
def spLom (K : PySem.W.Frag) (C : Addr) : Sp := fun vs H Q _ => ∃ (a : Addr) (z : Str) (xs : List V) (zs : List (List Fc)), vs = [.str z, .ref a] ∧ SqL K H a xs ∧ IsL K H xs zs ∧ Alph z ∧
  ∀ H' x, Same H H' → LaNew K C H H' x z zs → Q (.ref x) H'
section
variable {P : Program} {w : World} {K : PySem.W.Frag} {mg : Str → Option Value} {base : Heap}
theorem scLom : FnScope ["alphabet", "products", "language"] ["alphabet", "products"] (defScope sLanguageOfMaximal) := ⟨rfl, rfl, rfl, by decide +kernel, rfl, by decide +kernel, by decide +kernel⟩
theorem ok_lom (D : Df K mg "language_of_maximal" sLanguageOfMaximal ["alphabet", "products"]) (L : DfLa K mg) : FnOk P w K mg base CX0 9 D.f D.fd ["alphabet", "products"] (spLom K L.C) := by
  have GI : FnOk P w K mg base CX0 7 L.i.f L.i.fd ["self", "alphabet", "products"] (spLi K L.C) := ok_li L
  refine D.F.ok scLom (fun vs H Q E h => ?_) (fun cdv A outer s H vs Q E hr h => ?_)
  · obtain ⟨a, z, xs, zs, rfl, _⟩ := h
    rfl
  · obtain ⟨a, z, xs, zs, rfl, ha, iA, al, k⟩ := h
    refine ⟨_, (pss_cons (ps_set (i := 2) scLom.nd rfl (.inl rfl) (pe_make L.mkr GI hr (by rfl) L.g L.i.b .nil pass0 (pa_cons (pv 0) (pa_cons (pe_lst pa_nil) pa_nil)))) (pss_cons (ps_fld (pv 2) (pe_callTy call_list_of (by rfl) L.mli (by decide +kernel) (pa_cons (pv 1) pa_nil)) rfl) (pss_one (ps_ret (pv 2))))), ?_⟩
    refine ⟨.str z, rfl, by show 0 ≤ sizeLine; decide, fun l5 hl5 => fun n dn hn hdn nnd => ?_⟩
    have sl5 := same_upd (o := .lst []) hl5
    have sN : Same (upd H l5 (.lst [])) (upd (upd (upd H l5 (.lst [])) dn (.own n)) n (.ins L.C dn [])) := fun b o e => (upd_ne (ne_of_none e hn)).trans ((upd_ne (ne_of_none e hdn)).trans e)
    refine ⟨n, dn, l5, z, [], [], rfl, upd_same, sN _ _ upd_same, .nil, al, by decide, fun p hp => (nomatch hp), fun F2 zs0 kp0 La0 mo0 _ => ⟨rfl, ?_⟩⟩
    have t5 : Same (upd H l5 (.lst [])) F2 := fun b o e => kp0 b o (sN _ _ e) (ne_of_none e hn)
    have s5 := sl5.trans t5
    obtain ⟨dx, q, ys, h1, h2, h3⟩ := La0
    refine ⟨.ref a, rfl, a, xs, rfl, .inl (same_lst s5 ha), fun l hl => ?_⟩
    have sl := same_upd (o := .lst xs) hl
    have h1' := sl _ _ h1
    refine ⟨.ref n, rfl, n, L.C, dx, _, rfl, h1', L.cl, L.nM, by show 2 < 1000; decide, ?_⟩
    have hn0 : H n = none := sl5.free hn
    have sE : Same H (upd (upd F2 l (.lst xs)) n (.ins L.C dx (putF "maximal" (.ref l) (flL z q)))) := fun b o e => (upd_ne (ne_of_none e hn0)).trans (sl _ _ (s5 _ _ e))
    rw [flL_put] at sE ⊢
    have nln : l ≠ n := fun e => by rw [e, h1] at hl; cases hl
    refine ⟨_, rfl, k _ n sE ⟨dx, l, xs, upd_same, (upd_ne nln).trans upd_same, iA.mono (same_tup sE), s5.free hl, hn0⟩⟩
end
end DW
/-! a Language is made: what the reading asks, in one line -/
namespace DW
open PySem PySem.Spec PyProof.Rows L2 TL
set_option autoImplicit false
theorem new_lang {K : PySem.W.Frag} {C : Addr} {H : Hp} {p : Addr} {z : Str} {us : List V} {ps : List (List Fc)} {R : Addr → Hp → Prop} {E : XK} (g : H p = some (.lst us)) (i : IsL K H us ps) (al : Alph z) (few : ps.length ≤ 1000000) (ok : ∀ q ∈ ps, ∀ f ∈ q, FOk z f) (len : ∀ q ∈ ps, q.length ≤ 10000)
    (k : ∀ H' x zs, Same H H' → LaNew K C H H' x z zs → MaxOf ps zs → R x H') :
    ∀ x dx, H x = none → H dx = none → dx ≠ x → spLi K C (.ref x :: [.str z, .ref p]) (upd (upd H dx (.own x)) x (.ins C dx [])) (fun v H2 => v = .non ∧ R x H2) E := fun x dx hx hdx _ => by
  have sX : Same H (upd (upd H dx (.own x)) x (.ins C dx [])) := fun b o e => (upd_ne (ne_of_none e hx)).trans ((upd_ne (ne_of_none e hdx)).trans e)
  refine ⟨x, dx, p, z, us, ps, rfl, upd_same, sX _ _ g, i.mono (same_tup sX), al, few, fun q hq => ⟨len q hq, ok q hq⟩, fun H' zs kp La mo nw => ⟨rfl, ?_⟩⟩
  obtain ⟨dx', q, ys, h1, h2, h3, h4⟩ := nw
  refine k H' x zs (fun b o e => kp b o (sX _ _ e) (ne_of_none e hx)) ⟨dx', q, ys, h1, h2, h3, ?_, hx⟩ mo
  cases e : H q with
  | none => rfl
  | some o => rw [sX q o e] at h4; cases h4
/-- an own Language -/
theorem LaAt.ty {K : PySem.W.Frag} {mg : Str → Option Value} {H : Hp} {p : Addr} {z : Str} {zs : List (List Fc)} (C : DfC3 K mg) (la : LaAt K C.C H p z zs) : TyX K H (.ref p) (.ref C.C) := by
  obtain ⟨dx, q, ys, e1, e2, e3⟩ := la
  exact .base (TyOf.ins e1 C.cl C.ow.ha C.ow.hn C.ow.ht C.ow.hm)
theorem eq_lang {K : PySem.W.Frag} {mg : Str → Option Value} {H : Hp} {x y : Addr} {z z' : Str} {A B : List (List Fc)} {Q : VK} {E : XK} (C : DfC3 K mg) (lx : LaAt K C.C H x z A) (ly : LaAt K C.C H y z' B) (al : Alph z) (al' : Alph z') (oA : ∀ q ∈ A, ∀ f ∈ q, FOk z f) (oB : ∀ q ∈ B, ∀ f ∈ q, FOk z' f)
    (k : Q (.bl (decide (z = z') && decide (A = B))) H) : OQ.rOEq K C.C (spLaQ K C.C) E (.ref x) (.ref y) H Q := by
  obtain ⟨d, q, v, e, h2, h3⟩ := id lx
  exact ⟨x, d, _, _, rfl, e, ly.ty C, nf_self, x, .ref y, z, A, rfl, lx, al, oA, .inl ⟨y, z', B, rfl, ly, al', oB, _, rfl, k⟩⟩
theorem eq_lang1 {K : PySem.W.Frag} {mg : Str → Option Value} {H : Hp} {x y : Addr} {z : Str} {A B : List (List Fc)} {Q : VK} {E : XK} (C : DfC3 K mg) (lx : LaAt K C.C H x z A) (ly : LaAt K C.C H y z B) (al : Alph z) (oA : ∀ q ∈ A, ∀ f ∈ q, FOk z f) (oB : ∀ q ∈ B, ∀ f ∈ q, FOk z f) {b : Bool} (hb : b = true ↔ A = B)
    (k : Q (.bl b) H) : OQ.rOEq K C.C (spLaQ K C.C) E (.ref x) (.ref y) H Q := by
  refine eq_lang C lx ly al al oA oB ?_
  have e : (decide (z = z) && decide (A = B)) = b := by
    rw [decide_eq_true (rfl : z = z), Bool.true_and, Bool.eq_iff_iff, hb, decide_eq_true_iff]
  rw [e]
  exact k
end DW
/-! check_alphabets and is_subset of Languages with one alphabet -/
namespace DW
open PySem PySem.Spec PyProof.Rows L2 TL
set_option autoImplicit false
def spCA0 (K : PySem.W.Frag) (C : Addr) : Sp := fun vs H Q E => ∃ (p p' : Addr) (z : Str) (zs zs' : List (List Fc)), vs = [.ref p, .ref p'] ∧ LaAt K C H p z zs ∧ LaAt K C H p' z zs' ∧ Q .non H
def subL (zs zs' : List (List Fc)) : Bool := zs.all fun q => zs'.any fun m => inc m q
def spSub0 (K : PySem.W.Frag) (C : Addr) : Sp := fun vs H Q E => ∃ (p p' : Addr) (z : Str) (zs zs' : List (List Fc)), vs = [.ref p, .ref p'] ∧ LaAt K C H p z zs ∧ LaAt K C H p' z zs' ∧ (∀ q ∈ zs, ∀ f ∈ q, Low f) ∧ (∀ q ∈ zs', ∀ f ∈ q, Low f) ∧ zs.length ≤ 1000000 ∧ (∀ H', Same H H' → Q (.bl (subL zs zs')) H')
section
variable {P : Program} {w : World} {K : PySem.W.Frag} {mg : Str → Option Value} {base : Heap}
theorem scCA : FnScope ["one", "other"] ["one", "other"] (defScope sCheckAlphabets) := ⟨rfl, rfl, rfl, by decide +kernel, rfl, by decide +kernel, by decide +kernel⟩
theorem ok_ca0 (D : Df K mg "check_alphabets" sCheckAlphabets ["one", "other"]) (C : DfC2 K mg) : FnOk P w K mg base CX0 2 D.f D.fd ["one", "other"] (spCA0 K C.C) := by
  have Ga : FnOk P w K mg base CX0 1 C.a.f C.a.fd ["self"] (spLaA K C.C) := ok_laA C
  refine D.F.ok scCA (fun vs H Q E h => ?_) (fun cdv A outer s H vs Q E hr h => ?_)
  · obtain ⟨p, p', z, zs, zs', rfl, _⟩ := h
    rfl
  · obtain ⟨p, p', z, zs, zs', rfl, la, la', k⟩ := h
    refine ⟨_, (pss_one (ps_if (pt_cmpR op_ne (pe_meth0 (pv 0) C.cl C.mta Ga hr C.a.b .nil pass0) (pe_meth0 (pv 1) C.cl C.mta Ga hr C.a.b .nil pass0) (nomark _)) (pss_one ps_never) pss_nil)), ?_⟩
    obtain ⟨dx, q, ys, h1, h2, h3⟩ := id la
    obtain ⟨dx', q', ys', g1, g2, g3⟩ := id la'
    refine ⟨.ref p, rfl, p, dx, _, rfl, h1, flL_no _ _ (by decide) (by decide), p, z, zs, rfl, la, .ref p', rfl, p', dx', _, rfl, g1, flL_no _ _ (by decide) (by decide), p', z, zs', rfl, la', rfl, _, rfl, ?_⟩
    refine ite2 (fun e => ?_) (fun e => ?_)
    · simp at e
    · exact k
theorem scSub : FnScope ["one", "other", "larger", "product"] ["one", "other"] (defScope sIsSubset) := ⟨rfl, rfl, rfl, by decide +kernel, rfl, by decide +kernel, by decide +kernel⟩
theorem ok_sub0 (D : Df K mg "is_subset" sIsSubset ["one", "other"]) (Dc : Df K mg "check_alphabets" sCheckAlphabets ["one", "other"]) (C : DfC2 K mg) (X : DfMx K mg) (ml : mg "list" = none) : FnOk P w K mg base CX0 6 D.f D.fd ["one", "other"] (spSub0 K C.C) := by
  have Gc : FnOk P w K mg base CX0 2 Dc.f Dc.fd ["one", "other"] (spCA0 K C.C) := ok_ca0 Dc C
  have Gp : FnOk P w K mg base CX0 1 C.p.f C.p.fd ["self"] (spLaP K C.C) := ok_laP C ml
  have Gi : FnOk P w K mg base CX0 5 X.i.f X.i.fd ["product", "products"] (spIn K) := ok_in X.i X.incl X.ma X.bw.ml
  refine D.F.ok scSub (fun vs H Q E h => ?_) (fun cdv A outer s H vs Q E hr h => ?_)
  · obtain ⟨p, p', z, zs, zs', rfl, _⟩ := h
    rfl
  · obtain ⟨p, p', z, zs, zs', rfl, la, la', low, low', zl, k1⟩ := h
    have hr1 : Room 1 _ := hr.mono (by decide)
    have hr2 : Room 2 _ := hr.mono (by decide)
    refine ⟨_, PSs.nox (pss_cons (ps_expr (pe_call Gc hr2 (by rfl) Dc.g Dc.F.kp Dc.b .nil pass0 (pa_cons (pv 0) (pa_cons (pv 1) pa_nil)))) (pss_cons (ps_set (i := 2) scSub.nd rfl (.inr rfl) (pe_meth0 (pv 1) C.cl C.mtp Gp hr1 C.p.b .nil pass0)) (pss_one (ps_ret (pe_callB (cr_all rfl) (by rfl) X.ma (by decide +kernel) (pa_cons (pe_lc (own := [("product", 3)]) (g := gName 3) rfl scSub.nd (pi_list (pe_meth0 (pv 0) C.cl C.mtp Gp hr1 C.p.b .nil pass0)) (blkOk_by (N := ["one", "other", "larger", "product"]) (sc := defScope sIsSubset) (by decide +kernel)) (fun _ _ _ _ _ => pg_name (i := 3) scSub.nd rfl (Or.inl rfl)) (fun _ _ _ _ _ => pts_nil) (fun _ _ _ _ _ => (pe_call Gi hr (by rfl) X.i.g X.i.F.kp X.i.b .nil pass0 (pa_cons (pv 3) (pa_cons (pv 2) pa_nil))))) pa_nil)))))), ?_⟩
    refine ⟨.ref p, rfl, .ref p', rfl, p, p', z, zs, zs', rfl, la, la', ?_⟩
    obtain ⟨dx', q', ys', g1, g2, g3⟩ := id la'
    refine ⟨.ref p', rfl, p', dx', _, rfl, g1, flL_no _ _ (by decide) (by decide), p', z, zs', rfl, la', fun H1 l ys1 s1 nl hl iL => ?_⟩
    obtain ⟨dx, q, ys, h1, h2, h3⟩ := id (la.same s1)
    refine ⟨.ref p, rfl, p, dx, _, rfl, h1, flL_no _ _ (by decide) (by decide), p, z, zs, rfl, la.same s1, fun H2 l2 ys2 s2 nl2 hl2 iL2 => ?_⟩
    have xl := iL2.len
    refine ⟨l2, rfl, ⟨_, SqL.of hl2⟩, fun L hL => ?_⟩
    refine lc_it (walk_list (xs := ys2)) (fun i H' => H' L = some (.lst (((zs.take i).map fun q => zs'.any fun m => inc m q).map V.bl)) ∧ Same H2 H') ⟨upd_same, same_upd hL⟩ (fun _ _ _ ⟨_, sm⟩ => SqL.of (sm _ _ hl2)) ?_ ?_
    · rintro i x G G' hi ⟨gL, sm⟩ ⟨rfl, hx⟩
      obtain ⟨q, hq, isq⟩ := iL2.get i x hx
      have qm := List.mem_of_getElem? hq
      have sm1 := s2.trans sm
      refine ⟨rfl, yes ⟨x, rfl, .ref l, rfl, x, l, q, ys1, zs', rfl, isq.mono (same_tup sm), SqL.of (sm1 _ _ hl), iL.mono (same_tup sm1), low q qm, low', fun H3 s3 => ?_⟩⟩
      refine ⟨_, s3 _ _ gL, ?_, ?_, fun b o e => (upd_ne (ne_of_none e hL)).trans ((sm.trans s3) _ _ e)⟩
      · rw [List.length_map, List.length_map, List.length_take, sizeLine_eq]
        omega
      · rw [upd_same, List.take_add_one, hq, List.map_append, List.map_append]
        rfl
    · rintro G ⟨gL, sm⟩
      rw [xl, List.take_length] at gL
      refine ⟨L, _, rfl, SqL.of gL, ?_⟩
      have e : (zs.map fun q => zs'.any fun m => inc m q).all id = subL zs zs' := by
        unfold subL
        rw [List.all_map]
        rfl
      rw [e]
      exact k1 _ ((s1.trans s2).trans sm)
end
end DW
/-! union_of_all -/
namespace DW
open PySem PySem.Spec PyProof.Rows L2 TL
set_option autoImplicit false
/-- a list of Languages -/
inductive IsLas (K : PySem.W.Frag) (C : Addr) (H : Hp) : List V → List (List (List Fc)) → Prop where
  | nil : IsLas K C H [] []
  | cons {p : Addr} {z : Str} {zs : List (List Fc)} {vs : List V} {zss : List (List (List Fc))} (h : LaAt K C H p z zs) (r : IsLas K C H vs zss) : IsLas K C H (.ref p :: vs) (zs :: zss)
theorem IsLas.len {K : PySem.W.Frag} {C : Addr} {H : Hp} : ∀ {vs : List V} {zss : List (List (List Fc))}, IsLas K C H vs zss → vs.length = zss.length
  | _, _, .nil => rfl
  | _, _, .cons _ r => congrArg Nat.succ r.len
theorem IsLas.get {K : PySem.W.Frag} {C : Addr} {H : Hp} : ∀ {vs : List V} {zss : List (List (List Fc))}, IsLas K C H vs zss → ∀ (i : Nat) (v : V), vs[i]? = some v → ∃ p z zs, v = .ref p ∧ zss[i]? = some zs ∧ LaAt K C H p z zs
  | _, _, .nil, i, v, h => by cases h
  | _, _, .cons h r, 0, v, e => by
    cases e
    exact ⟨_, _, _, rfl, rfl, h⟩
  | _, _, .cons h r, i + 1, v, e => r.get i v e
theorem las_take {zss : List (List (List Fc))} {i : Nat} {zs : List (List Fc)} (h : zss[i]? = some zs) : (zss.take (i + 1)).flatten = (zss.take i).flatten ++ zs := by
  rw [List.take_add_one, h, List.flatten_append]
  simp
theorem las_len (zss : List (List (List Fc))) (i : Nat) : (zss.take i).flatten.length ≤ zss.flatten.length := by
  have e : zss.flatten = (zss.take i).flatten ++ (zss.drop i).flatten := by rw [← List.flatten_append, List.take_append_drop]
  rw [e, List.length_append]
  omega
def spUall (K : PySem.W.Frag) (C : Addr) : Sp := fun vs H Q _ => ∃ (a : Addr) (z : Str) (xs : List V) (zss : List (List (List Fc))), vs = [.str z, .ref a] ∧ SqL K H a xs ∧ IsLas K C H xs zss ∧ Alph z ∧ zss.flatten.length ≤ 1000000 ∧ (∀ p ∈ zss.flatten, p.length ≤ 10000 ∧ ∀ f ∈ p, FOk z f) ∧
  ∀ H' p zs, Same H H' → H p = none → LaAt K C H' p z zs → MaxOf zss.flatten zs → Q (.ref p) H'
section
variable {P : Program} {w : World} {K : PySem.W.Frag} {mg : Str → Option Value} {base : Heap}
theorem scUall : FnScope ["alphabet", "languages", "language", "product"] ["alphabet", "languages"] (defScope sUnionOfAll) := ⟨rfl, rfl, rfl, by decide +kernel, rfl, by decide +kernel, by decide +kernel⟩
theorem ok_uall (D : Df K mg "union_of_all" sUnionOfAll ["alphabet", "languages"]) (L : DfLa K mg) (C : DfC2 K mg) (eC : L.C = C.C) : FnOk P w K mg base CX0 9 D.f D.fd ["alphabet", "languages"] (spUall K L.C) := by
  have GI : FnOk P w K mg base CX0 7 L.i.f L.i.fd ["self", "alphabet", "products"] (spLi K L.C) := ok_li L
  have Gp : FnOk P w K mg base CX0 1 C.p.f C.p.fd ["self"] (spLaP K C.C) := ok_laP C L.mli
  refine D.F.ok scUall (fun vs H Q E h => ?_) (fun cdv A outer s H vs Q E hr h => ?_)
  · obtain ⟨a, z, xs, zss, rfl, _⟩ := h
    rfl
  · obtain ⟨a, z, xs, zss, rfl, ha, iA, al, wl, hw, k⟩ := h
    have hr1 : Room 1 _ := hr.mono (by decide)
    have xl := iA.len
    refine ⟨_, (pss_one (ps_ret (pe_make L.mkr GI hr (by rfl) L.g L.i.b .nil pass0 (pa_cons (pv 0) (pa_cons (pe_lc2 (own := [("language", 2), ("product", 3)]) (vs1 := [3]) (g := gName 2) (g1 := gName 3) (wi1 := iList K (tMeth C.C "products" (spLaP K C.C) [] E0 (tVar 2) tNil)) (te := tVar 3) rfl scUall.nd (pi_list (pv 1)) (blkOk_by (N := ["alphabet", "languages", "language", "product"]) (sc := defScope sUnionOfAll) (by decide +kernel)) (by decide) (fun _ _ _ _ _ => pg_name (i := 2) scUall.nd rfl (Or.inl rfl)) (fun _ _ _ _ _ => pts_nil) (fun _ _ _ _ _ => pi_list (pe_meth0 (pv 2) C.cl C.mtp Gp hr1 C.p.b .nil pass0)) (fun _ _ _ _ _ => pg_name (i := 3) scUall.nd rfl (Or.inl rfl)) (fun _ _ _ _ _ => pts_nil) (fun _ _ _ _ _ => pv 3)) pa_nil))))), ?_⟩
    refine ⟨.str z, rfl, .ref a, rfl, a, rfl, ⟨_, ha⟩, fun L0 hL => ?_⟩
    refine lc2_it (walk_list (xs := xs)) (fun i H' => ∃ us, H' L0 = some (.lst us) ∧ IsL K H' us (zss.take i).flatten ∧ Same H H') ⟨[], upd_same, .nil, same_upd hL⟩ (fun _ _ _ ⟨_, _, _, sm⟩ => same_lst sm ha) ?_ ?_
    · rintro i x G G' hi ⟨us, gL, iL, sm⟩ ⟨rfl, hx⟩
      obtain ⟨p, z', zs, rfl, hz, la⟩ := iA.get i x hx
      rw [eC] at la
      obtain ⟨dx, q, ys, h1, h2, h3⟩ := id (la.same sm)
      refine ⟨rfl, yes ?_⟩
      refine ⟨.ref p, rfl, p, dx, _, rfl, h1, flL_no _ _ (by decide) (by decide), p, z', zs, rfl, la.same sm, fun F1 l vs1 s1 nl hl iV => ?_⟩
      have vl := iV.len
      have sm1 := sm.trans s1
      have gL1 := s1 _ _ gL
      have nlL : l ≠ L0 := fun e => by rw [e] at nl; rw [nl] at gL; cases gL
      refine ⟨l, rfl, ⟨_, SqL.of hl⟩, ?_⟩
      refine inn_it (walk_list (xs := vs1)) (fun j H' => ∃ us, H' L0 = some (.lst us) ∧ IsL K H' us ((zss.take i).flatten ++ zs.take j) ∧ IsL K H' vs1 zs ∧ H' l = some (.lst vs1) ∧ Same H H') ⟨us, gL1, by rw [List.take_zero, List.append_nil]; exact iL.mono (same_tup s1), iV, hl, sm1⟩ (fun _ _ _ ⟨_, _, _, _, hl', _⟩ => SqL.of hl') ?_ ?_
      · rintro j y F F' hj ⟨us', gL', iL', iV', hl', sm'⟩ ⟨rfl, hy⟩
        obtain ⟨f, hf, isf⟩ := iV'.get j y hy
        have nt : ∀ b ws, SqT K F' b ws → SqT K (upd F' L0 (.lst (us' ++ [y]))) b ws := fun b ws hb => upd_lst gL' b ws hb
        refine ⟨rfl, yes ⟨_, rfl, _, gL', ?_, _, upd_same, ?_, iV'.mono nt, (upd_ne nlL).trans hl', fun b o e => (upd_ne (ne_of_none e hL)).trans (sm' _ _ e)⟩⟩
        · have := iL'.len
          have l2 := las_len zss (i + 1)
          rw [las_take hz, List.length_append] at l2
          rw [this, List.length_append, List.length_take, sizeLine_eq]
          omega
        · rw [List.take_add_one, hf, ← List.append_assoc]
          exact (iL'.mono nt).app (.cons (isf.mono nt) .nil)
      · rintro F ⟨us', gL', iL', iV', hl', sm'⟩
        rw [vl, List.take_length, ← las_take hz] at iL'
        exact ⟨us', gL', iL', sm'⟩
    · rintro G ⟨us, gL, iL, sm⟩
      rw [xl, List.take_length] at iL
      refine fun x dx hx hdx nxd => ?_
      have sX : Same G (upd (upd G dx (.own x)) x (.ins L.C dx [])) := fun b o e => (upd_ne (ne_of_none e hx)).trans ((upd_ne (ne_of_none e hdx)).trans e)
      refine ⟨x, dx, L0, z, us, _, rfl, upd_same, sX _ _ gL, iL.mono (same_tup sX), al, wl, hw, fun G1 zs kp La mo _ => ⟨rfl, ?_⟩⟩
      have sG : Same G G1 := fun b o e => kp b o (sX _ _ e) (ne_of_none e hx)
      refine k _ x zs (sm.trans sG) ?_ La mo
      cases q : H x with
      | none => rfl
      | some o =>
        rw [sm _ _ q] at hx
        cases hx
end
end DW
/-! union -/
namespace DW
open PySem PySem.Spec PyProof.Rows L2 TL
set_option autoImplicit false
def spUn0 (K : PySem.W.Frag) (C : Addr) : Sp := fun vs H Q E => ∃ (p p' : Addr) (z : Str) (zs zs' : List (List Fc)), vs = [.ref p, .ref p'] ∧ LaAt K C H p z zs ∧ LaAt K C H p' z zs' ∧ Alph z ∧ zs.length + zs'.length ≤ 1000000 ∧ (∀ p ∈ zs ++ zs', p.length ≤ 10000 ∧ ∀ f ∈ p, FOk z f) ∧
  ∀ H' x ws, Same H H' → H x = none → LaAt K C H' x z ws → MaxOf (zs ++ zs') ws → Q (.ref x) H'
section
variable {P : Program} {w : World} {K : PySem.W.Frag} {mg : Str → Option Value} {base : Heap}
theorem scUni : FnScope ["one", "other"] ["one", "other"] (defScope sUnion) := ⟨rfl, rfl, rfl, by decide +kernel, rfl, by decide +kernel, by decide +kernel⟩
theorem ok_un0 (D : Df K mg "union" sUnion ["one", "other"]) (Du : Df K mg "union_of_all" sUnionOfAll ["alphabet", "languages"]) (Dc : Df K mg "check_alphabets" sCheckAlphabets ["one", "other"]) (L : DfLa K mg) (C : DfC2 K mg) (eC : L.C = C.C) : FnOk P w K mg base CX0 10 D.f D.fd ["one", "other"] (spUn0 K C.C) := by
  have Gc : FnOk P w K mg base CX0 2 Dc.f Dc.fd ["one", "other"] (spCA0 K C.C) := ok_ca0 Dc C
  have Gal : FnOk P w K mg base CX0 1 C.a.f C.a.fd ["self"] (spLaA K C.C) := ok_laA C
  have Gu : FnOk P w K mg base CX0 9 Du.f Du.fd ["alphabet", "languages"] (spUall K C.C) := by rw [← eC]; exact ok_uall Du L C eC
  refine D.F.ok scUni (fun vs H Q E h => ?_) (fun cdv A outer s H vs Q E hr h => ?_)
  · obtain ⟨p, p', z, zs, zs', rfl, _⟩ := h
    rfl
  · obtain ⟨p, p', z, zs, zs', rfl, la, la', al, nl, ok, k⟩ := h
    have hr1 : Room 1 _ := hr.mono (by decide)
    have hr2 : Room 2 _ := hr.mono (by decide)
    refine ⟨_, (pss_cons (ps_expr (pe_call Gc hr2 (by rfl) Dc.g Dc.F.kp Dc.b .nil pass0 (pa_cons (pv 0) (pa_cons (pv 1) pa_nil)))) (pss_one (ps_ret (pe_call Gu hr (by rfl) Du.g Du.F.kp Du.b .nil pass0 (pa_cons (pe_meth0 (pv 0) C.cl C.mta Gal hr1 C.a.b .nil pass0) (pa_cons (pe_lst (pa_cons (pv 0) (pa_cons (pv 1) pa_nil))) pa_nil)))))), ?_⟩
    refine ⟨.ref p, rfl, .ref p', rfl, p, p', z, zs, zs', rfl, la, la', ?_⟩
    obtain ⟨dx, q, ys, g1, g2, g3⟩ := id la
    refine ⟨.ref p, rfl, p, dx, _, rfl, g1, flL_no _ _ (by decide) (by decide), p, z, zs, rfl, la, .ref p, rfl, .ref p', rfl, by show 2 ≤ sizeLine; decide, fun l hl => ?_⟩
    have sl := same_upd (o := .lst [V.ref p, V.ref p']) hl
    have ef : [zs, zs'].flatten = zs ++ zs' := by simp
    refine ⟨l, z, [.ref p, .ref p'], [zs, zs'], rfl, SqL.of upd_same, .cons (la.same sl) (.cons (la'.same sl) .nil), al, by rw [ef, List.length_append]; exact nl, by rw [ef]; exact ok, fun H' x ws s' nx lx mo => ?_⟩
    rw [ef] at mo
    exact k H' x ws (sl.trans s') (sl.free nx) lx mo
end
end DW
/-! closure_of_words -/
namespace DW
open PySem PySem.Spec PyProof.Rows L2 TL
set_option autoImplicit false
def spClw (K : PySem.W.Frag) (C : Addr) : Sp := fun vs H Q _ => ∃ (a : Addr) (z : Str) (ws : List Str), vs = [.str z, .ref a] ∧ SqL K H a (ws.map V.str) ∧ Alph z ∧ ws.length ≤ 1000000 ∧ (∀ u ∈ ws, OverW z u ∧ (tl u).length ≤ 1000) ∧
  ∀ H' p zs, Same H H' → LaNew K C H H' p z zs → MaxOf (ws.map fun u => ones (tl u)) zs → Q (.ref p) H'
theorem fok_ones {z u : Str} (h : OverW z u) : ∀ f ∈ ones (tl u), FOk z f := fun f hf => by
  obtain ⟨c, hc, rfl⟩ := List.mem_map.mp hf
  refine ⟨?_, ?_, fun _ => ?_⟩
  · show tl (one c) ≠ []
    rw [tl_one]
    simp
  · show (tl (one c)).Sublist (tl z)
    rw [tl_one]
    exact List.singleton_sublist.mpr (h c hc)
  · show (tl (one c)).length = 1
    rw [tl_one]
    rfl
section
variable {P : Program} {w : World} {K : PySem.W.Frag} {mg : Str → Option Value} {base : Heap}
theorem scClw : FnScope ["alphabet", "words", "word"] ["alphabet", "words"] (defScope sClosureOfWords) := ⟨rfl, rfl, rfl, by decide +kernel, rfl, by decide +kernel, by decide +kernel⟩
theorem ok_clw (D : Df K mg "closure_of_words" sClosureOfWords ["alphabet", "words"]) (L : DfLa K mg) : FnOk P w K mg base CX0 9 D.f D.fd ["alphabet", "words"] (spClw K L.C) := by
  have GI : FnOk P w K mg base CX0 7 L.i.f L.i.fd ["self", "alphabet", "products"] (spLi K L.C) := ok_li L
  have Gs : FnOk P w K mg base CX0 1 L.sp.f L.sp.fd ["word"] (spSubw K) := ok_subw L.sp L.pr.mt
  refine D.F.ok scClw (fun vs H Q E h => ?_) (fun cdv A outer s H vs Q E hr h => ?_)
  · obtain ⟨a, z, ws, rfl, _⟩ := h
    rfl
  · obtain ⟨a, z, ws, rfl, ha, al, wl, hw, k⟩ := h
    have hr1 : Room 1 _ := hr.mono (by decide)
    refine ⟨_, (pss_one (ps_ret (pe_make L.mkr GI hr (by rfl) L.g L.i.b .nil pass0 (pa_cons (pv 0) (pa_cons (pe_lc (own := [("word", 2)]) (g := gName 2) rfl scClw.nd (pi_list (pv 1)) (blkOk_by (N := ["alphabet", "words", "word"]) (sc := defScope sClosureOfWords) (by decide +kernel)) (fun _ _ _ _ _ => pg_name (i := 2) scClw.nd rfl (Or.inl rfl)) (fun _ _ _ _ _ => pts_nil) (fun _ _ _ _ _ => (pe_call Gs hr1 (by rfl) L.sp.g L.sp.F.kp L.sp.b .nil pass0 (pa_cons (pv 2) pa_nil)))) pa_nil))))), ?_⟩
    refine ⟨.str z, rfl, .ref a, rfl, a, rfl, ⟨_, ha⟩, fun L0 hL => ?_⟩
    refine lc_it (walk_list (xs := ws.map V.str)) (fun i H' => ∃ us, H' L0 = some (.lst us) ∧ IsL K H' us ((ws.take i).map fun u => ones (tl u)) ∧ Same H H') ⟨[], upd_same, .nil, same_upd hL⟩ (fun _ _ _ ⟨_, _, _, sm⟩ => same_lst sm ha) ?_ ?_
    · rintro i x G G' hi ⟨us, gL, iL, sm⟩ ⟨rfl, hx⟩
      rw [List.getElem?_map] at hx
      cases hu : ws[i]? with
      | none =>
        rw [hu] at hx
        cases hx
      | some u =>
        rw [hu] at hx
        have ex : V.str u = x := Option.some.inj hx
        subst ex
        have um := List.mem_of_getElem? hu
        refine ⟨rfl, yes ⟨.str u, rfl, u, rfl, by have := (hw u um).2; omega, fun G1 v s1 isv => ?_⟩⟩
        have gL1 := s1 _ _ gL
        refine ⟨us, gL1, ?_, us ++ [v], upd_same, ?_, fun b o e => (upd_ne (ne_of_none e hL)).trans ((sm.trans s1) _ _ e)⟩
        · rw [iL.len, List.length_map, List.length_take, sizeLine_eq]
          omega
        · rw [List.take_add_one, hu, List.map_append]
          exact ((iL.mono (same_tup s1)).app (.cons isv .nil)).mono fun b ys hb => upd_lst gL1 b ys hb
    · rintro G ⟨us, gL, iL, sm⟩
      rw [List.length_map, List.take_length] at iL
      refine new_lang gL iL al (by rw [List.length_map]; exact wl) (fun p hp => ?_) (fun p hp => ?_) fun G1 x zs sG La mo => k _ x zs (sm.trans sG) (La.pre sm) mo
      · obtain ⟨u, hu, rfl⟩ := List.mem_map.mp hp
        exact fok_ones (hw u hu).1
      · obtain ⟨u, hu, rfl⟩ := List.mem_map.mp hp
        have := (hw u hu).2
        unfold ones
        rw [List.length_map]
        omega
end
end DW
/-! concatenation: which pairs of products are inside which -/
namespace DW
open PySem PySem.Spec PyProof.Rows L2 TL
set_option autoImplicit false
def enS (p : List Fc) : List Fc := (p.drop (p.length - 1)).filter fun f => f.1
def stS (q : List Fc) : List Fc := (q.take 1).filter fun f => f.1
theorem enS_nil : enS [] = [] := rfl
theorem enS_one (f : Fc) : enS [f] = if f.1 = true then [f] else [] := by
  unfold enS
  show List.filter _ [f] = _
  by_cases k : f.1 = true
  · rw [if_pos k, List.filter_cons_of_pos k, List.filter_nil]
  · rw [if_neg k, List.filter_cons_of_neg k, List.filter_nil]
theorem enS_cons (f g : Fc) (r : List Fc) : enS (f :: g :: r) = enS (g :: r) := by
  unfold enS
  have e : (f :: g :: r).length - 1 = ((g :: r).length - 1) + 1 := by simp
  rw [e, List.drop_succ_cons]
theorem enS_mem {p : List Fc} {f : Fc} (h : f ∈ enS p) : f ∈ p := List.mem_of_mem_drop (List.mem_filter.mp h).1
theorem stS_mem {p : List Fc} {f : Fc} (h : f ∈ stS p) : f ∈ p := List.mem_of_mem_take (List.mem_filter.mp h).1
theorem enS_len (p : List Fc) : (enS p).length ≤ 1 := Nat.le_trans (List.length_filter_le _ _) (by rw [List.length_drop]; omega)
theorem stS_len (p : List Fc) : (stS p).length ≤ 1 := Nat.le_trans (List.length_filter_le _ _) (by rw [List.length_take]; omega)
theorem st_en (q : List Fc) : (enS q.reverse).reverse = stS q := by
  unfold enS stS
  rw [List.length_reverse, ← List.filter_reverse, List.drop_reverse, List.reverse_reverse]
  match q with
  | [] => rfl
  | f :: r =>
    have e : (f :: r).length - ((f :: r).length - 1) = 1 := by simp
    rw [e]
theorem rst_self : ∀ {p : List Fc}, Apart p → W1 p → rst p p = some (enS p)
  | [], _, _ => rst_nil _
  | [f], _, w => by
    have c : cov f f = true := by simp [cov]
    rw [rst_cons, if_pos c, enS_one]
    by_cases k : f.1 = true
    · rw [if_pos k, if_pos k, rst_nil]
    · rw [if_neg k, if_neg k, rst_nil]
  | f :: g :: r, ap, w => by
    have c : cov f f = true := by simp [cov]
    have ih := rst_self (p := g :: r) ap.tail fun x hx => w x (List.mem_cons_of_mem _ hx)
    rw [rst_cons, if_pos c, enS_cons]
    by_cases k : f.1 = true
    · rw [if_pos k]
      have n : ¬ cov f g = true := by
        have s1 : sw f g = false := ap.1
        intro h
        unfold cov at h
        rw [s1, Bool.or_false, decide_eq_true_eq] at h
        subst h
        rw [sw_of k fun _ q => q] at s1
        cases s1
      rw [rst_cons, if_neg n]
      exact ih
    · rw [if_neg k]
      exact ih
theorem rst_more (b : List Fc) : ∀ (a p r : List Fc), rst a p = some r → rst (a ++ b) p = some (r ++ b)
  | a, [], r, h => by
    rw [rst_nil] at h ⊢
    cases h
    rfl
  | [], f :: p, r, h => by
    rw [rst_none] at h
    cases h
  | g :: a, f :: p, r, h => by
    rw [rst_cons] at h
    rw [List.cons_append, rst_cons]
    by_cases c : cov g f = true
    · rw [if_pos c] at h ⊢
      by_cases k : g.1 = true
      · rw [if_pos k] at h ⊢
        exact rst_more b (g :: a) p r h
      · rw [if_neg k] at h ⊢
        exact rst_more b a p r h
    · rw [if_neg c] at h ⊢
      exact rst_more b a (f :: p) r h
termination_by a p => a.length + p.length
theorem rst_past (b : List Fc) : ∀ (a p r : List Fc), rst a p = none → rst (a ++ b) p = some r → r <:+ b
  | a, [], r, h, _ => by
    rw [rst_nil] at h
    cases h
  | [], f :: p, r, _, h => rst_suf _ _ _ h
  | g :: a, f :: p, r, h, h2 => by
    rw [rst_cons] at h
    rw [List.cons_append, rst_cons] at h2
    by_cases c : cov g f = true
    · rw [if_pos c] at h h2
      by_cases k : g.1 = true
      · rw [if_pos k] at h h2
        exact rst_past b (g :: a) p r h h2
      · rw [if_neg k] at h h2
        exact rst_past b a p r h h2
    · rw [if_neg c] at h h2
      exact rst_past b a (f :: p) r h h2
termination_by a p => a.length + p.length
theorem w1_app {p q : List Fc} (h : W1 p) (k : W1 q) : W1 (p ++ q) := fun f hf => (List.mem_append.mp hf).elim (h f) (k f)
/-- the same first product -/
theorem inc_first {p q q' : List Fc} (ap : Apart p) (wp : W1 p) : inc (p ++ q') (p ++ q) = inc (enS p ++ q') q := by
  rw [← rst_inc, ← rst_inc, rst_app, rst_more q' _ _ _ (rst_self ap wp)]
  rfl
theorem inc_rev2 {p q : List Fc} (wp : W1 p) (wq : W1 q) : inc q.reverse p.reverse = inc q p := by
  rw [Bool.eq_iff_iff]
  refine ⟨inc_rev wp wq, fun h => ?_⟩
  refine inc_rev (w1_rev wp) (w1_rev wq) ?_
  rw [List.reverse_reverse, List.reverse_reverse]
  exact h
/-- the same second product -/
theorem inc_second {p p' q : List Fc} (ap : Apart q) (wp : W1 p) (wp' : W1 p') (wq : W1 q) : inc (p' ++ q) (p ++ q) = inc (p' ++ stS q) p := by
  have w2 : W1 (stS q) := fun f hf => wq f (stS_mem hf)
  rw [← inc_rev2 (w1_app wp wq) (w1_app wp' wq), List.reverse_append, List.reverse_append, inc_first ap.rev (w1_rev wq), ← inc_rev2 wp (w1_app wp' w2), List.reverse_append, ← st_en, List.reverse_reverse]
/-- neither the same -/
theorem inc_cross {p q p' q' : List Fc} (wq : W1 q) (wq' : W1 q') (h : inc (p' ++ q') (p ++ q) = true) (n : inc p' p = false) : inc q' q = true := by
  rw [← rst_inc, rst_app] at h
  rw [← rst_inc] at n
  cases e1 : rst p' p with
  | some r => rw [e1] at n; cases n
  | none =>
    cases e2 : rst (p' ++ q') p with
    | none => rw [e2] at h; cases h
    | some r =>
      rw [e2] at h
      obtain ⟨x, rfl⟩ := rst_past q' _ _ _ e1 e2
      have h' : inc r q = true := by rw [← rst_inc]; exact h
      have wr : W1 r := fun f hf => wq' f (List.mem_append_right _ hf)
      refine (inc_lang wq wq').mpr fun u hu => ?_
      have := Lg.app (Lg.empty x) ((inc_lang wq wr).mp h' u hu)
      simpa using this
theorem cnt_less {α : Type} {p q : α → Bool} {a : α} : ∀ (l : List α), (∀ x ∈ l, p x = true → q x = true) → a ∈ l → q a = true → p a = false → l.countP p < l.countP q
  | [], _, h, _, _ => nomatch h
  | x :: l, h, m, ha, na => by
    rw [List.countP_cons, List.countP_cons]
    have le : l.countP p ≤ l.countP q := List.countP_mono_left fun y hy => h y (List.mem_cons_of_mem _ hy)
    rcases List.mem_cons.mp m with e | e
    · subst e
      rw [ha, na]
      simp only [if_true, Bool.false_eq_true, if_false]
      omega
    · have ih := cnt_less l (fun y hy => h y (List.mem_cons_of_mem _ hy)) e ha na
      have hx := h x List.mem_cons_self
      cases e1 : p x with
      | false =>
        simp only [Bool.false_eq_true, if_false]
        omega
      | true =>
        rw [hx e1]
        simp only [if_true]
        omega
theorem inc_self {z : Str} {p : List Fc} (ok : ∀ f ∈ p, FOk z f) : inc p p = true := (inc_lang (fok_w1 ok) (fok_w1 ok)).mpr fun _ h => h
section
variable {z : Str} {A B : List (List Fc)} {T Hd : List Fc → List (List Fc)}
/-- a pair that stays -/
def Kept (A B : List (List Fc)) (T Hd : List Fc → List (List Fc)) (x : List Fc × List Fc) : Prop := x.1 ∈ A ∧ x.2 ∈ B ∧ red (enS x.1 ++ x.2) ∈ T (enS x.1) ∧ red (x.1 ++ stS x.2) ∈ Hd (stS x.2)
structure CatIn (z : Str) (A B : List (List Fc)) (T Hd : List Fc → List (List Fc)) : Prop where
  a : ∀ p ∈ A, Rz z p
  b : ∀ q ∈ B, Rz z q
  aa : Anti A
  ab : Anti B
  t : ∀ p ∈ A, MaxOf (B.map fun q => enS p ++ q) (T (enS p))
  h : ∀ q ∈ B, MaxOf (A.map fun p => p ++ stS q) (Hd (stS q))
theorem CatIn.ok (C : CatIn z A B T Hd) {p q : List Fc} (hp : p ∈ A) (hq : q ∈ B) : ∀ f ∈ p ++ q, FOk z f := fun f hf => (List.mem_append.mp hf).elim ((C.a p hp).ok f) ((C.b q hq).ok f)
theorem CatIn.okt (C : CatIn z A B T Hd) {p : List Fc} (hp : p ∈ A) : ∀ x ∈ B.map fun q => enS p ++ q, ∀ f ∈ x, FOk z f := fun x hx f hf => by
  obtain ⟨q, hq, rfl⟩ := List.mem_map.mp hx
  exact (List.mem_append.mp hf).elim (fun h => (C.a p hp).ok f (enS_mem h)) ((C.b q hq).ok f)
theorem CatIn.okh (C : CatIn z A B T Hd) {q : List Fc} (hq : q ∈ B) : ∀ x ∈ A.map fun p => p ++ stS q, ∀ f ∈ x, FOk z f := fun x hx f hf => by
  obtain ⟨p, hp, rfl⟩ := List.mem_map.mp hx
  exact (List.mem_append.mp hf).elim ((C.a p hp).ok f) (fun h => (C.b q hq).ok f (stS_mem h))
theorem inc_red {z : Str} {p q : List Fc} (op : ∀ f ∈ p, FOk z f) (oq : ∀ f ∈ q, FOk z f) : inc (red q) (red p) = inc q p := by
  have r1 : ∀ f ∈ red p, FOk z f := fun f hf => op f (red_mem hf)
  have r2 : ∀ f ∈ red q, FOk z f := fun f hf => oq f (red_mem hf)
  rw [Bool.eq_iff_iff, inc_lang (fok_w1 r1) (fok_w1 r2), inc_lang (fok_w1 op) (fok_w1 oq)]
  exact ⟨fun h u hu => (red_lg q u).mpr (h u ((red_lg p u).mp hu)), fun h u hu => (red_lg q u).mp (h u ((red_lg p u).mpr hu))⟩
theorem rz_red {z : Str} {p : List Fc} (op : ∀ f ∈ p, FOk z f) : Rz z (red p) := ⟨fun f hf => op f (red_mem hf), red_apart p⟩
/-- two in one antichain -/
theorem one_of {z : Str} (al : Alph z) {ps M : List (List Fc)} (hM : MaxOf ps M) (ok : ∀ p ∈ ps, ∀ f ∈ p, FOk z f) {a b : List Fc} (oa : ∀ f ∈ a, FOk z f) (ob : ∀ f ∈ b, FOk z f) (ha : red a ∈ M) (hb : b ∈ ps) (i : inc b a = true) : inc a b = true := by
  have an := (hM.anti al ok).1
  rcases hM.sup b hb with h | ⟨m, hm, h⟩
  · have e := an _ h _ ha ((inc_red oa ob).trans i)
    rw [← inc_red ob oa, e]
    exact inc_self (rz_red ob).ok
  · have om : ∀ f ∈ m, FOk z f := (hM.rz ok m hm).ok
    have j : inc m (red a) = true := by
      refine (inc_lang (fok_w1 (rz_red oa).ok) (fok_w1 om)).mpr fun u hu => ?_
      exact (inc_lang (fok_w1 (rz_red ob).ok) (fok_w1 om)).mp h u ((red_lg b u).mp ((inc_lang (fok_w1 oa) (fok_w1 ob)).mp i u ((red_lg a u).mpr hu)))
    have e := an _ hm _ ha j
    rw [← e] at h
    rw [← inc_red ob oa]
    exact h
def StarL (e : List Fc) : Prop := e = [] ∨ ∃ f, e = [f] ∧ f.1 = true
theorem enS_star (p : List Fc) : StarL (enS p) := by
  have l := enS_len p
  match e : enS p, l with
  | [], _ => exact .inl rfl
  | [f], _ => exact .inr ⟨f, rfl, (List.mem_filter.mp (show f ∈ enS p by rw [e]; exact List.mem_cons_self)).2⟩
  | _ :: _ :: _, l => simp at l
theorem stS_star (p : List Fc) : StarL (stS p) := by
  have l := stS_len p
  match e : stS p, l with
  | [], _ => exact .inl rfl
  | [f], _ => exact .inr ⟨f, rfl, (List.mem_filter.mp (show f ∈ stS p by rw [e]; exact List.mem_cons_self)).2⟩
  | _ :: _ :: _, l => simp at l
theorem StarL.dup {e : List Fc} (h : StarL e) {a b : List Nat} (ha : Lg e a) (hb : Lg e b) : Lg e (a ++ b) := by
  rcases h with e | ⟨f, e, k⟩
  · subst e
    cases ha
    cases hb
    exact .nil
  · subst e
    rw [Lg.one_star k] at ha hb ⊢
    exact fun c hc => (List.mem_append.mp hc).elim (ha c) (hb c)
theorem first_up {e q q' : List Fc} (s : StarL e) (we : W1 e) (wq : W1 q) (wq' : W1 q') : inc (e ++ q') q = inc (e ++ q') (e ++ q) := by
  rw [Bool.eq_iff_iff, inc_lang wq (w1_app we wq'), inc_lang (w1_app we wq) (w1_app we wq')]
  constructor
  · intro h u hu
    obtain ⟨a, b, rfl, h1, h2⟩ := Lg.split hu
    obtain ⟨a', b', rfl, h3, h4⟩ := Lg.split (h b h2)
    rw [← List.append_assoc]
    exact Lg.app (s.dup h1 h3) h4
  · intro h u hu
    refine h u ?_
    have := Lg.app (Lg.empty e) hu
    simpa using this
theorem second_up {e p p' : List Fc} (s : StarL e) (we : W1 e) (wp : W1 p) (wp' : W1 p') : inc (p' ++ e) p = inc (p' ++ e) (p ++ e) := by
  rw [Bool.eq_iff_iff, inc_lang wp (w1_app wp' we), inc_lang (w1_app wp we) (w1_app wp' we)]
  constructor
  · intro h u hu
    obtain ⟨a, b, rfl, h1, h2⟩ := Lg.split hu
    obtain ⟨a', b', rfl, h3, h4⟩ := Lg.split (h a h1)
    rw [List.append_assoc]
    exact Lg.app h3 (s.dup h4 h2)
  · intro h u hu
    refine h u ?_
    have := Lg.app hu (Lg.empty e)
    simpa using this
theorem w1_en {p : List Fc} (w : W1 p) : W1 (enS p) := fun f hf => w f (enS_mem hf)
theorem w1_st {p : List Fc} (w : W1 p) : W1 (stS p) := fun f hf => w f (stS_mem hf)
/-- the same first product, as the tails are compared -/
theorem inc_first2 {z : Str} {p q q' : List Fc} (rp : Rz z p) (rq : Rz z q) (rq' : Rz z q') : inc (p ++ q') (p ++ q) = inc (enS p ++ q') (enS p ++ q) := by
  rw [inc_first rp.ap (fok_w1 rp.ok), first_up (enS_star p) (w1_en (fok_w1 rp.ok)) (fok_w1 rq.ok) (fok_w1 rq'.ok)]
theorem inc_second2 {z : Str} {p p' q : List Fc} (rp : Rz z p) (rp' : Rz z p') (rq : Rz z q) : inc (p' ++ q) (p ++ q) = inc (p' ++ stS q) (p ++ stS q) := by
  rw [inc_second rq.ap (fok_w1 rp.ok) (fok_w1 rp'.ok) (fok_w1 rq.ok), second_up (stS_star q) (w1_st (fok_w1 rq.ok)) (fok_w1 rp.ok) (fok_w1 rp'.ok)]
/-- two pairs that stay are the same product or neither is inside the other -/
theorem CatIn.anti (al : Alph z) (C : CatIn z A B T Hd) {x y : List Fc × List Fc} (hx : Kept A B T Hd x) (hy : Kept A B T Hd y) (i : inc (y.1 ++ y.2) (x.1 ++ x.2) = true) : red (y.1 ++ y.2) = red (x.1 ++ x.2) := by
  obtain ⟨p, q⟩ := x
  obtain ⟨p', q'⟩ := y
  obtain ⟨hp, hq, ht, hh⟩ := hx
  obtain ⟨hp', hq', ht', hh'⟩ := hy
  dsimp only at hp hq ht hh hp' hq' ht' hh' i ⊢
  have o1 := C.ok hp hq
  have o2 := C.ok hp' hq'
  have mq : ∀ {p : List Fc}, ∀ r ∈ B, enS p ++ r ∈ B.map fun q => enS p ++ q := fun r hr => List.mem_map_of_mem hr
  have mp : ∀ {q : List Fc}, ∀ r ∈ A, r ++ stS q ∈ A.map fun p => p ++ stS q := fun r hr => List.mem_map_of_mem hr
  have back : inc (p ++ q) (p' ++ q') = true := by
    by_cases e : p = p'
    · subst e
      rw [inc_first2 (C.a p hp) (C.b q hq) (C.b q' hq')] at i
      rw [inc_first2 (C.a p hp) (C.b q' hq') (C.b q hq)]
      exact one_of al (C.t p hp) (C.okt hp) (C.okt hp _ (mq q hq)) (C.okt hp _ (mq q' hq')) ht (mq q' hq') i
    · have n : inc p' p = false := by
        rw [Bool.eq_false_iff]
        exact fun h => e (C.aa p' hp' p hp h)
      have e2 : q = q' := C.ab q' hq' q hq (inc_cross (fok_w1 (C.b q hq).ok) (fok_w1 (C.b q' hq').ok) i n)
      subst e2
      rw [inc_second2 (C.a p hp) (C.a p' hp') (C.b q hq)] at i
      rw [inc_second2 (C.a p' hp') (C.a p hp) (C.b q hq)]
      exact one_of al (C.h q hq) (C.okh hq) (C.okh hq _ (mp p hp)) (C.okh hq _ (mp p' hp')) hh (mp p' hp') i
  exact inc_anti al (rz_red o2) (rz_red o1) ((inc_red o1 o2).trans i) ((inc_red o2 o1).trans back)
/-- a greatest one of all is among the greatest ones -/
theorem top_in {z : Str} (al : Alph z) {ps M : List (List Fc)} (hM : MaxOf ps M) (ok : ∀ p ∈ ps, ∀ f ∈ p, FOk z f) {a : List Fc} (ha : a ∈ ps) (mx : ∀ b ∈ ps, inc b a = true → inc a b = true) : red a ∈ M := by
  rcases hM.sup a ha with h | ⟨m, hm, h⟩
  · exact h
  · obtain ⟨b, hb, rfl⟩ := hM.sub m hm
    rw [inc_red (ok a ha) (ok b hb)] at h
    have j := mx b hb h
    rw [inc_anti al (rz_red (ok a ha)) (rz_red (ok b hb)) ((inc_red (ok b hb) (ok a ha)).trans j) ((inc_red (ok a ha) (ok b hb)).trans h)]
    exact hm
/-- a greatest pair stays -/
theorem CatIn.top (al : Alph z) (C : CatIn z A B T Hd) {p q : List Fc} (hp : p ∈ A) (hq : q ∈ B) (mx : ∀ p' ∈ A, ∀ q' ∈ B, inc (p' ++ q') (p ++ q) = true → inc (p ++ q) (p' ++ q') = true) : Kept A B T Hd (p, q) := by
  refine ⟨hp, hq, top_in al (C.t p hp) (C.okt hp) (List.mem_map_of_mem hq) fun b hb i => ?_, top_in al (C.h q hq) (C.okh hq) (List.mem_map_of_mem hp) fun b hb i => ?_⟩
  · obtain ⟨q', hq', rfl⟩ := List.mem_map.mp hb
    rw [← inc_first2 (C.a p hp) (C.b q hq) (C.b q' hq')] at i
    rw [← inc_first2 (C.a p hp) (C.b q' hq') (C.b q hq)]
    exact mx p hp q' hq' i
  · obtain ⟨p', hp', rfl⟩ := List.mem_map.mp hb
    rw [← inc_second2 (C.a p hp) (C.a p' hp') (C.b q hq)] at i
    rw [← inc_second2 (C.a p' hp') (C.a p hp) (C.b q hq)]
    exact mx p' hp' q hq i
/-- above each pair stands one that stays -/
theorem CatIn.up (al : Alph z) (C : CatIn z A B T Hd) : ∀ (n : Nat) (p q : List Fc), p ∈ A → q ∈ B → ((A.map fun a => B.map fun b => a ++ b).flatten.countP fun x => inc x (p ++ q)) = n → ∃ x, Kept A B T Hd x ∧ inc (x.1 ++ x.2) (p ++ q) = true := by
  intro n
  induction n using Nat.strongRecOn with
  | _ n ih =>
    intro p q hp hq hn
    have o := C.ok hp hq
    by_cases mx : ∀ p' ∈ A, ∀ q' ∈ B, inc (p' ++ q') (p ++ q) = true → inc (p ++ q) (p' ++ q') = true
    · exact ⟨(p, q), C.top al hp hq mx, inc_self o⟩
    · obtain ⟨p', q', hp', hq', i, ni⟩ : ∃ p' q', p' ∈ A ∧ q' ∈ B ∧ inc (p' ++ q') (p ++ q) = true ∧ inc (p ++ q) (p' ++ q') = false := by
        refine Classical.byContradiction fun h => mx fun p' hp' q' hq' i => ?_
        refine Classical.byContradiction fun j => h ⟨p', q', hp', hq', i, by rwa [Bool.not_eq_true] at j⟩
      have o' := C.ok hp' hq'
      have mem : ∀ a ∈ A, ∀ b ∈ B, a ++ b ∈ (A.map fun a => B.map fun b => a ++ b).flatten := fun a ha b hb => List.mem_flatten.mpr ⟨_, List.mem_map_of_mem ha, List.mem_map_of_mem hb⟩
      have okx : ∀ x ∈ (A.map fun a => B.map fun b => a ++ b).flatten, ∀ f ∈ x, FOk z f := fun x hx => by
        obtain ⟨l, hl, hx⟩ := List.mem_flatten.mp hx
        obtain ⟨a, ha, rfl⟩ := List.mem_map.mp hl
        obtain ⟨b, hb, rfl⟩ := List.mem_map.mp hx
        exact C.ok ha hb
      have less := cnt_less (p := fun x => inc x (p' ++ q')) (q := fun x => inc x (p ++ q)) (A.map fun a => B.map fun b => a ++ b).flatten (fun x hx h => (inc_lang (fok_w1 o) (fok_w1 (okx x hx))).mpr fun u hu => (inc_lang (fok_w1 o') (fok_w1 (okx x hx))).mp h u ((inc_lang (fok_w1 o) (fok_w1 o')).mp i u hu))
        (mem p hp q hq) (inc_self o) ni
      obtain ⟨x, hx, j⟩ := ih _ (hn ▸ less) p' q' hp' hq' rfl
      have ox := C.ok hx.1 hx.2.1
      exact ⟨x, hx, (inc_lang (fok_w1 o) (fok_w1 ox)).mpr fun u hu => (inc_lang (fok_w1 o') (fok_w1 ox)).mp j u ((inc_lang (fok_w1 o) (fok_w1 o')).mp i u hu)⟩
/-- what is found -/
theorem CatIn.can (al : Alph z) (C : CatIn z A B T Hd) {F : List (List Fc)} (nd : F.Nodup) (mem : ∀ r, r ∈ F ↔ ∃ x, Kept A B T Hd x ∧ r = red (x.1 ++ x.2)) : Can z (F.mergeSort leP) := by
  refine can_of (fun r hr => ?_) (fun r hr s hs i => ?_) nd
  · obtain ⟨x, hx, rfl⟩ := (mem r).mp hr
    exact rz_red (C.ok hx.1 hx.2.1)
  · obtain ⟨x, hx, rfl⟩ := (mem r).mp hr
    obtain ⟨y, hy, rfl⟩ := (mem s).mp hs
    rw [inc_red (C.ok hy.1 hy.2.1) (C.ok hx.1 hx.2.1)] at i
    exact (C.anti al hy hx i).symm
theorem CatIn.has (al : Alph z) (C : CatIn z A B T Hd) {F : List (List Fc)} (mem : ∀ r, r ∈ F ↔ ∃ x, Kept A B T Hd x ∧ r = red (x.1 ++ x.2)) (u : List Nat) : (∃ r ∈ F.mergeSort leP, Lg r u) ↔ ∃ p ∈ A, ∃ q ∈ B, Lg (p ++ q) u := by
  rw [ex_perm (List.mergeSort_perm F leP) u]
  constructor
  · rintro ⟨r, hr, l⟩
    obtain ⟨x, hx, rfl⟩ := (mem r).mp hr
    exact ⟨x.1, hx.1, x.2, hx.2.1, (red_lg _ u).mpr l⟩
  · rintro ⟨p, hp, q, hq, l⟩
    obtain ⟨x, hx, i⟩ := C.up al _ p q hp hq rfl
    exact ⟨_, (mem _).mpr ⟨x, hx, rfl⟩, (red_lg _ u).mp ((inc_lang (fok_w1 (C.ok hp hq)) (fok_w1 (C.ok hx.1 hx.2.1))).mp i u l)⟩
end
end DW
/-! stars_among, maximal_tails, maximal_heads -/
namespace DW
open PySem PySem.Spec PyProof.Rows L2 TL
set_option autoImplicit false
open ND (Ent DO KOks NK NKs valN putN setN keyVs)
def spSa (K : PySem.W.Frag) : Sp := fun vs H Q _ => ∃ (a : Addr) (xs : List V) (fs : List Fc), vs = [.ref a] ∧ SqT K H a xs ∧ IsFs K H xs fs ∧ fs.length ≤ 100000 ∧
  ∀ H' b, Same H H' → IsP K H' (.ref b) (fs.filter fun f => f.1) → Q (.ref b) H'
/-- a dict from each end to the dict of the products found for it -/
inductive IsTs (P : Program) (w : World) (K : PySem.W.Frag) (H : Hp) : List Ent → List (List Fc × List (List Fc)) → Prop where
  | nil : IsTs P w K H [] []
  | cons {b De : Addr} {kv rows : List Ent} {e : List Fc} {M : List (List Fc)} {rs : List (List Fc × List (List Fc))} (he : IsP K H (.ref b) e) (hd : H De = some (DO P w De kv)) (rw : RW K H kv M) (r : IsTs P w K H rows rs) : IsTs P w K H ((prodKey e, b, .ref De) :: rows) ((e, M) :: rs)
section
variable {P : Program} {w : World} {K : PySem.W.Frag} {H H' : Hp}
theorem IsTs.mono (m : ∀ b xs, SqT K H b xs → SqT K H' b xs) : ∀ {rows : List Ent} {rs : List (List Fc × List (List Fc))}, IsTs P w K H rows rs → (∀ e ∈ rows, ∀ D kvs, e.2.2 = .ref D → H D = some (DO P w D kvs) → H' D = some (DO P w D kvs)) → IsTs P w K H' rows rs
  | _, _, .nil, _ => .nil
  | _, _, .cons he hd rw r, d => .cons (he.mono m) (d _ List.mem_cons_self _ _ rfl hd) (rw.mono m) (r.mono m fun e h => d e (List.mem_cons_of_mem _ h))
theorem IsTs.same {rows : List Ent} {rs : List (List Fc × List (List Fc))} (h : IsTs P w K H rows rs) (s : Same H H') : IsTs P w K H' rows rs := h.mono (same_tup s) fun _ _ _ _ _ q => s _ _ q
theorem IsTs.len : ∀ {rows : List Ent} {rs : List (List Fc × List (List Fc))}, IsTs P w K H rows rs → rows.length = rs.length
  | _, _, .nil => rfl
  | _, _, .cons _ _ _ r => by rw [List.length_cons, List.length_cons, r.len]
theorem IsTs.keys : ∀ {rows : List Ent} {rs : List (List Fc × List (List Fc))}, IsTs P w K H rows rs → rows.map (·.1) = rs.map fun r => prodKey r.1
  | _, _, .nil => rfl
  | _, _, .cons _ _ _ r => by rw [List.map_cons, List.map_cons, r.keys]
theorem IsTs.snoc {b De : Addr} {kv : List Ent} {e : List Fc} {M : List (List Fc)} (he : IsP K H (.ref b) e) (hd : H De = some (DO P w De kv)) (rw : RW K H kv M) : ∀ {rows : List Ent} {rs : List (List Fc × List (List Fc))}, IsTs P w K H rows rs → IsTs P w K H (rows ++ [(prodKey e, b, .ref De)]) (rs ++ [(e, M)])
  | _, _, .nil => .cons he hd rw .nil
  | _, _, .cons a b c r => .cons a b c (r.snoc he hd rw)
theorem IsTs.oks : ∀ {rows : List Ent} {rs : List (List Fc × List (List Fc))}, IsTs P w K H rows rs → KOks K H rows
  | _, _, .nil => fun e h => nomatch h
  | _, _, .cons he _ _ r => fun e h => by
    rcases List.mem_cons.mp h with q | q
    · rw [q]
      exact ⟨isP_nk he, depth_prod _⟩
    · exact r.oks e q
theorem IsTs.get : ∀ {rows : List Ent} {rs : List (List Fc × List (List Fc))}, IsTs P w K H rows rs → ∀ (e : List Fc) (M : List (List Fc)), (e, M) ∈ rs → (rs.map (·.1)).Nodup → ∃ De kv, valN rows (prodKey e) = some (.ref De) ∧ H De = some (DO P w De kv) ∧ RW K H kv M
  | _, _, .nil, e, M, h, _ => nomatch h
  | _, _, @IsTs.cons _ _ _ _ b De kv rows e0 M0 rs he hd rw r, e, M, h, nd => by
    rw [List.map_cons, List.nodup_cons] at nd
    rcases List.mem_cons.mp h with q | q
    · cases q
      refine ⟨De, kv, ?_, hd, rw⟩
      unfold valN
      rw [List.find?_cons_of_pos (by exact decide_eq_true rfl)]
      rfl
    · obtain ⟨De', kv', h1, h2, h3⟩ := r.get e M q nd.2
      refine ⟨De', kv', ?_, h2, h3⟩
      have ne : ¬ prodKey e0 = prodKey e := fun z => nd.1 (by rw [prodKey_inj z]; exact List.mem_map.mpr ⟨_, q, rfl⟩)
      rw [← h1]
      unfold valN
      rw [List.find?_cons_of_neg (by simpa using ne)]
theorem valN_new {rows : List Ent} {k : NestedKey} (h : k ∉ rows.map (·.1)) : valN rows k = none := by
  unfold valN
  rw [Option.map_eq_none_iff, List.find?_eq_none]
  intro e he z
  exact h (by rw [← of_decide_eq_true z]; exact List.mem_map_of_mem he)
theorem putN_new {rows : List Ent} {k : NestedKey} {b : Addr} {v : V} (h : k ∉ rows.map (·.1)) : putN rows k b v = rows ++ [(k, b, v)] := by
  unfold putN
  rw [valN_new h]
  rfl
end
section
variable {P : Program} {w : World} {K : PySem.W.Frag} {mg : Str → Option Value} {base : Heap}
theorem scSa : FnScope ["factors", "factor"] ["factors"] (defScope sStarsAmong) := ⟨rfl, rfl, rfl, by decide +kernel, rfl, by decide +kernel, by decide +kernel⟩
theorem ok_sa (D : Df K mg "stars_among" sStarsAmong ["factors"]) (mt : mg "tuple" = none) : FnOk P w K mg base CX0 1 D.f D.fd ["factors"] (spSa K) := by
  refine D.F.ok scSa (fun vs H Q E h => ?_) (fun cdv A outer s H vs Q E hr h => ?_)
  · obtain ⟨a, xs, fs, rfl, _⟩ := h
    rfl
  · obtain ⟨a, xs, fs, rfl, ha, iF, fl, k⟩ := h
    have xl := iF.len
    refine ⟨_, (pss_one (ps_ret (pe_callTy call_tuple_of (by rfl) mt (by decide +kernel) (pa_cons (pe_lc (own := [("factor", 1)]) (g := gName 1) rfl scSa.nd (pi_tup (pv 0)) (blkOk_by (N := ["factors", "factor"]) (sc := defScope sStarsAmong) (by decide +kernel)) (fun _ _ _ _ _ => pg_name (i := 1) scSa.nd rfl (Or.inl rfl)) (fun _ _ _ _ _ => (pts_one (pt_cmpR op_eq (pe_ix (r := rIxT K) (by exact ix_tup) (pv 1) pe_int (fun _ _ => rfl)) pe_str (nomark _)))) (fun _ _ _ _ _ => (pv 1))) pa_nil)))), ?_⟩
    refine ⟨.ref a, rfl, a, rfl, ⟨_, ha⟩, fun L hL => ?_⟩
    refine lc_it (walk_tup (xs := xs)) (fun i H' => ∃ us : List V, H' L = some (.lst us) ∧ IsFs K H' us ((fs.take i).filter fun f => f.1) ∧ Same H H') ⟨[], upd_same, .nil, same_upd hL⟩ (fun _ _ _ ⟨_, _, _, sm⟩ => same_tup sm _ _ ha) ?_ ?_
    · rintro i x G G' hi ⟨us, gL, iU, sm⟩ ⟨rfl, hx⟩
      obtain ⟨f, hf, isf⟩ := iF.get i x hx
      obtain ⟨b, rfl, hb⟩ := id (isf.mono (same_tup sm))
      have tk : fs.take (i + 1) = fs.take i ++ [f] := by rw [List.take_add_one, hf]; rfl
      refine ⟨rfl, .ref b, rfl, b, _, 0, _, rfl, rfl, hb, rfl, rfl, _, rfl, ?_⟩
      rw [kd_star f.1]
      by_cases kk : f.1 = true
      · refine ite2 (fun _ => ?_) fun e => absurd kk e
        have usl := iU.len
        have fl2 := List.length_filter_le (fun f : Fc => f.1) (fs.take i)
        rw [List.length_take] at fl2
        refine ⟨.ref b, rfl, us, gL, by rw [sizeLine_eq]; omega, us ++ [.ref b], upd_same, ?_, fun c o e => (upd_ne (ne_of_none e hL)).trans (sm _ _ e)⟩
        rw [tk, List.filter_append, List.filter_cons_of_pos kk, List.filter_nil]
        exact (iU.snoc (isf.mono (same_tup sm))).mono (upd_tup gL)
      · refine ite2 (fun e => absurd e kk) fun _ => ?_
        refine ⟨us, gL, ?_, sm⟩
        rw [tk, List.filter_append, List.filter_cons_of_neg kk, List.filter_nil, List.append_nil]
        exact iU
    · rintro G ⟨us, gL, iU, sm⟩
      rw [xl, List.take_length] at iU
      refine ⟨L, us, rfl, .inl ⟨SqL.of gL, fun q hq => ?_⟩⟩
      have s2 := same_upd (o := .tup us) hq
      exact k _ q (sm.trans s2) ⟨q, us, rfl, .inl (.inl upd_same), iU.mono (same_tup s2)⟩
end

def spMt (P : Program) (w : World) (K : PySem.W.Frag) : Sp := fun vs H Q _ => ∃ (z : Str) (ea pa : Addr) (evs pvs : List V) (es B : List (List Fc)), vs = [.ref ea, .ref pa] ∧ SqL K H ea evs ∧ IsL K H evs es ∧ SqL K H pa pvs ∧ IsL K H pvs B ∧ Alph z ∧ es.Nodup ∧ es.length ≤ 1000 ∧ B.length ≤ 1000000 ∧
  (∀ e ∈ es, (∀ f ∈ e, FOk z f) ∧ e.length ≤ 1000) ∧ (∀ q ∈ B, (∀ f ∈ q, FOk z f) ∧ q.length ≤ 5000) ∧
  ∀ H' D rows rs, Same H H' → H' D = some (DO P w D rows) → IsTs P w K H' rows rs → rs.map (·.1) = es → (∀ r ∈ rs, MaxOf (B.map fun q => (fun e q : List Fc => e ++ q) r.1 q) r.2) → Q (.ref D) H'
structure DfMt (K : PySem.W.Frag) (mg : Str → Option Value) where
  t : Df K mg "maximal_tails" sMaximalTails ["ends", "products"]
  m : DfMx K mg
section
variable {P : Program} {w : World} {K : PySem.W.Frag} {mg : Str → Option Value} {base : Heap}
theorem scMt : FnScope ["ends", "products", "found", "end", "product", "tail"] ["ends", "products"] (defScope sMaximalTails) := ⟨rfl, rfl, rfl, by decide +kernel, rfl, by decide +kernel, by decide +kernel⟩
theorem ok_mt (D : DfMt K mg) : FnOk P w K mg base CX0 7 D.t.f D.t.fd ["ends", "products"] (spMt P w K) := by
  have Gm : FnOk P w K mg base CX0 6 D.m.m.f D.m.m.fd ["products"] (spMx K) := ok_mx D.m
  refine D.t.F.ok scMt (fun vs H Q E h => ?_) (fun cdv A outer s H vs Q E hr h => ?_)
  · obtain ⟨z, ea, pa, evs, pvs, es, B, rfl, _⟩ := h
    rfl
  · obtain ⟨z, ea, pa, evs, pvs, es, B, rfl, hea, iE, hpa, iB, al, nd, el, bl, oke, okb, k⟩ := h
    have hr6 : Room 6 _ := hr
    have evl := iE.len
    have pvl := iB.len
    have zl := sizeLine_eq
    refine ⟨_, PSs.nox (pss_cons (ps_set (i := 2) scMt.nd rfl (.inl rfl) ND.pe_dnewN) (pss_cons (ps_for PassesOwn.never rfl (pi_list (pv 0)) (pg_name (i := 3) scMt.nd rfl (.inr rfl)) (pss_one (ND.ps_dputN (u9 hr) (pv 2) (pv 3) (ND.pe_dcN (own := [("tail", 5)]) (g := gName 5) (tt := tYes) (tk := tVar 5) (tv := tC (.bl true)) (u9 hr) rfl scMt.nd (pi_list (pe_call Gm hr6 (by rfl) D.m.m.g D.m.m.F.kp D.m.m.b .nil pass0 (pa_cons (pe_lc (own := [("product", 4)]) (g := gName 4) rfl scMt.nd (pi_list (pv 1)) (blkOk_by (N := ["ends", "products", "found", "end", "product", "tail"]) (sc := defScope sMaximalTails) (by decide +kernel)) (fun _ _ _ _ _ => pg_name (i := 4) scMt.nd rfl (Or.inl rfl)) (fun _ _ _ _ _ => pts_nil) (fun _ _ _ _ _ => (pe_op (r := rCatA K) (by exact op_catA) (pv 3) (pv 4)))) pa_nil))) (blkOk_by (N := ["ends", "products", "found", "end", "product", "tail"]) (sc := defScope sMaximalTails) (by decide +kernel)) (fun _ _ _ _ _ => pg_name (i := 5) scMt.nd rfl (Or.inl rfl)) (fun _ _ _ _ _ => pts_nil) (fun _ _ _ _ _ => (pv 5)) (fun _ _ _ _ _ => pe_bl)) rfl))) (pss_one (ps_ret (pv 2))))), ?_⟩
    intro D0 hD0
    have s0 := same_upd (o := DO P w D0 []) hD0
    refine ⟨.ref ea, rfl, ea, rfl, ⟨_, same_lst s0 hea⟩, for_it (walk_list (xs := evs)) (fun i σ H' => ∃ (rows : List Ent) (rs : List (List Fc × List (List Fc))) (y3 : Option V), σ = [some (.ref ea), some (.ref pa), some (.ref D0), y3, none, none] ∧ H' D0 = some (DO P w D0 rows) ∧ IsTs P w K H' rows rs ∧ rs.map (·.1) = es.take i ∧ (∀ r ∈ rs, MaxOf (B.map fun q => (fun e q : List Fc => e ++ q) r.1 q) r.2) ∧ (∀ e ∈ rows, e.2.2 ≠ .ref D0) ∧ Same H H')
      ⟨[], [], _, rfl, upd_same, .nil, rfl, fun r h => (nomatch h), fun e h => (nomatch h), s0⟩ (fun _ _ _ _ ⟨_, _, _, _, _, _, _, _, _, sm⟩ => same_lst sm hea) ?_ ?_⟩
    · rintro i x σ G G' hi ⟨rows, rs, y3, rfl, gD, iT, er, mx, nod, sm⟩ ⟨rfl, hx⟩
      obtain ⟨e, he, ise⟩ := iE.get i x hx
      have em := List.mem_of_getElem? he
      have rsl := iT.len
      have rl : rs.length ≤ 1000 := by
        have := congrArg List.length er
        rw [List.length_map, List.length_take] at this
        omega
      obtain ⟨b, bs, rfl, hb, iFe⟩ := id ise
      -- the products put together
      refine ⟨.ref pa, rfl, pa, rfl, ⟨_, same_lst sm hpa⟩, fun L hL => ?_⟩
      refine lc_it (walk_list (xs := pvs)) (fun j H' => ∃ us : List V, H' L = some (.lst us) ∧ IsL K H' us ((B.take j).map fun q => e ++ q) ∧ Same G' H') ⟨[], upd_same, .nil, same_upd hL⟩ (fun _ _ _ ⟨_, _, _, s2⟩ => same_lst (sm.trans s2) hpa) ?_ ?_
      · rintro j y M M' hj ⟨us, gL, iU, s2⟩ ⟨rfl, hy⟩
        obtain ⟨q, hq, c, cs, rfl, hc, iFq⟩ := iB.get j y hy
        have qm := List.mem_of_getElem? hq
        have s3 := sm.trans s2
        have l1 := iFe.len
        have l2 := iFq.len
        have l3 := (oke e em).2
        have l4 := (okb q qm).2
        have usl := iU.len
        rw [List.length_map, List.length_take] at usl
        refine ⟨rfl, yes ⟨_, rfl, _, rfl, cat_any (same_tup s3 _ _ (by assumption)) (same_tup s3 _ _ (by assumption)) (by omega) fun H3 p s4 hp => ⟨us, s4 _ _ gL, by omega, us ++ [.ref p], upd_same, ?_, fun b o e => (upd_ne (ne_of_none e hL)).trans ((s2.trans s4) _ _ e)⟩⟩⟩
        have tk : B.take (j + 1) = B.take j ++ [q] := by rw [List.take_add_one, hq]; rfl
        rw [tk, List.map_append]
        have isq : IsP K H3 (.ref p) (e ++ q) := ⟨p, _, rfl, hp, IsFs.app ((by first | exact iFe | exact iFq : IsFs K H _ _).mono (same_tup (s3.trans s4))) ((by first | exact iFq | exact iFe : IsFs K H _ _).mono (same_tup (s3.trans s4)))⟩
        exact ((iU.mono (same_tup s4)).app (.cons isq .nil)).mono (upd_tup (s4 _ _ gL))
      rintro M ⟨us, gL, iU, s2⟩
      rw [pvl, List.take_length] at iU
      have okc : ∀ q ∈ B.map (fun q => e ++ q), q.length ≤ 10000 ∧ ∀ f ∈ q, Low f := fun q hq => by
        obtain ⟨q0, hq0, rfl⟩ := List.mem_map.mp hq
        obtain ⟨o1, l1⟩ := oke e em
        obtain ⟨o2, l2⟩ := okb q0 hq0
        refine ⟨by rw [List.length_append]; omega, fun f hf => fok_low al ?_⟩
        rcases List.mem_append.mp hf with h | h
        · first | exact o1 f h | exact o2 f h
        · first | exact o2 f h | exact o1 f h
      refine ⟨L, us, _, rfl, SqL.of gL, iU, by rw [List.length_map]; exact bl, okc, fun H3 q ys zs s4 hq0 hq iZ M0 => ?_⟩
      have ysl := iZ.len
      have zsl : zs.length ≤ 1000000 := by
        have := M0.few al fun p hp f hf => by
          obtain ⟨q0, hq0, rfl⟩ := List.mem_map.mp hp
          rcases List.mem_append.mp hf with h | h
          · first | exact (oke e em).1 f h | exact (okb q0 hq0).1 f h
          · first | exact (okb q0 hq0).1 f h | exact (oke e em).1 f h
        rw [List.length_map] at this
        omega
      have znd : zs.Nodup := (M0.anti al fun p hp f hf => by
          obtain ⟨q0, hq0, rfl⟩ := List.mem_map.mp hp
          rcases List.mem_append.mp hf with h | h
          · first | exact (oke e em).1 f h | exact (okb q0 hq0).1 f h
          · first | exact (okb q0 hq0).1 f h | exact (oke e em).1 f h).2
      refine ⟨q, rfl, ⟨_, SqL.of hq⟩, fun D1 hD1 => ?_⟩
      refine ND.dcN_it (walk_list (xs := ys)) (fun j H' => ∃ kvs : List Ent, H' D1 = some (DO P w D1 kvs) ∧ RW K H' kvs (zs.take j) ∧ Same H3 H') ⟨[], upd_same, ⟨rfl, fun i e r h => by simp at h⟩, same_upd hD1⟩ (fun _ _ _ ⟨_, _, _, sm⟩ => SqL.of (sm _ _ hq)) ?_ ?_
      · rintro j x N N' hj ⟨kvs, gD1, rw', sN⟩ ⟨rfl, hx⟩
        obtain ⟨r, hr', isr⟩ := iZ.get j x hx
        obtain ⟨c, cs, rfl, hc⟩ := id (isr.mono (same_tup sN))
        have rwl := rw'.len
        have jl := (List.getElem?_eq_some_iff.mp hr').1
        rw [List.length_take] at rwl
        have nr : r ∉ zs.take j := fun h => by
          obtain ⟨l, hl⟩ := List.getElem?_of_mem h
          rw [List.getElem?_take] at hl
          split at hl
          · next lt =>
            have := (List.getElem?_inj (List.getElem?_eq_some_iff.mp hl).1 znd).mp (hl.trans hr'.symm)
            omega
          · cases hl
        have isc := isr.mono (same_tup sN)
        refine ⟨rfl, yes ⟨.ref c, rfl, c, kvs, prodKey r, rfl, gD1, rw'.oks, isP_nk isc, depth_prod _, by omega, _, upd_same, ?_, fun b o e => (upd_ne (ne_of_none e hD1)).trans (sN _ _ e)⟩⟩
        have ea' : zs.take (j + 1) = addR (zs.take j) r := by
          unfold addR
          rw [if_neg nr, List.take_add_one, hr']
          rfl
        rw [ea']
        exact (rw'.put isc).mono (upd_do gD1)
      rintro N ⟨kvs, gD1, rw', sN⟩
      rw [ysl, List.take_length] at rw'
      have sAll := (s2.trans s4).trans sN
      have sH := sm.trans sAll
      have gD2 := sAll _ _ gD
      have iT2 := iT.same sAll
      have isb : IsP K N (.ref b) e := ise.mono (same_tup sH)
      have nk : prodKey e ∉ rows.map (·.1) := fun h => by
        rw [iT.keys] at h
        obtain ⟨r, hr', e1⟩ := List.mem_map.mp h
        have rm : r.1 ∈ es.take i := by
          rw [← er]
          exact List.mem_map_of_mem hr'
        rw [prodKey_inj e1] at rm
        obtain ⟨l, hl⟩ := List.getElem?_of_mem rm
        rw [List.getElem?_take] at hl
        split at hl
        · next lt =>
          have := (List.getElem?_inj (List.getElem?_eq_some_iff.mp hl).1 nd).mp (hl.trans he.symm)
          omega
        · cases hl
      have nD : D0 ≠ D1 := ne_of_none ((s2.trans s4) _ _ gD) hD1
      refine ⟨.ref D0, rfl, .ref b, rfl, D0, b, rows, prodKey e, rfl, rfl, gD2, iT2.oks, isP_nk isb, depth_prod _, by omega, ?_⟩
      rw [putN_new nk]
      have mo : ∀ c xs, SqT K N c xs → SqT K (upd N D0 (DO P w D0 (rows ++ [(prodKey e, b, .ref D1)]))) c xs := upd_do gD2
      refine ⟨_, rs ++ [(e, zs)], _, rfl, upd_same, ?_, ?_, fun r hr' => ?_, fun x hx => ?_, fun c o e => (upd_ne (ne_of_none e hD0)).trans (sH _ _ e)⟩
      · refine (iT2.snoc isb gD1 rw').mono mo fun x hx D kvs ex hD => (upd_ne fun z => ?_).trans hD
        subst z
        rcases List.mem_append.mp hx with h | h
        · exact nod x h ex
        · rw [List.mem_singleton.mp h] at ex
          exact nD (by injection ex with z; exact z.symm)
      · rw [List.map_append, er, List.take_add_one, he]
        rfl
      · rcases List.mem_append.mp hr' with h | h
        · exact mx r h
        · rw [List.mem_singleton.mp h]
          exact M0
      · rcases List.mem_append.mp hx with h | h
        · exact nod x h
        · rw [List.mem_singleton.mp h]
          exact fun ex => nD (by injection ex with z; exact z.symm)
    · rintro σ G ⟨rows, rs, y3, rfl, gD, iT, er, mx, nod, sm⟩
      rw [evl, List.take_length] at er
      exact ⟨.ref D0, rfl, k _ _ _ _ sm gD iT er mx⟩
end

def spMh (P : Program) (w : World) (K : PySem.W.Frag) : Sp := fun vs H Q _ => ∃ (z : Str) (ea pa : Addr) (evs pvs : List V) (es B : List (List Fc)), vs = [.ref pa, .ref ea] ∧ SqL K H ea evs ∧ IsL K H evs es ∧ SqL K H pa pvs ∧ IsL K H pvs B ∧ Alph z ∧ es.Nodup ∧ es.length ≤ 1000 ∧ B.length ≤ 1000000 ∧
  (∀ e ∈ es, (∀ f ∈ e, FOk z f) ∧ e.length ≤ 1000) ∧ (∀ q ∈ B, (∀ f ∈ q, FOk z f) ∧ q.length ≤ 5000) ∧
  ∀ H' D rows rs, Same H H' → H' D = some (DO P w D rows) → IsTs P w K H' rows rs → rs.map (·.1) = es → (∀ r ∈ rs, MaxOf (B.map fun q => (fun e q : List Fc => q ++ e) r.1 q) r.2) → Q (.ref D) H'
structure DfMh (K : PySem.W.Frag) (mg : Str → Option Value) where
  t : Df K mg "maximal_heads" sMaximalHeads ["products", "starts"]
  m : DfMx K mg
section
variable {P : Program} {w : World} {K : PySem.W.Frag} {mg : Str → Option Value} {base : Heap}
theorem scMh : FnScope ["products", "starts", "found", "start", "product", "head"] ["products", "starts"] (defScope sMaximalHeads) := ⟨rfl, rfl, rfl, by decide +kernel, rfl, by decide +kernel, by decide +kernel⟩
theorem ok_mh (D : DfMh K mg) : FnOk P w K mg base CX0 7 D.t.f D.t.fd ["products", "starts"] (spMh P w K) := by
  have Gm : FnOk P w K mg base CX0 6 D.m.m.f D.m.m.fd ["products"] (spMx K) := ok_mx D.m
  refine D.t.F.ok scMh (fun vs H Q E h => ?_) (fun cdv A outer s H vs Q E hr h => ?_)
  · obtain ⟨z, ea, pa, evs, pvs, es, B, rfl, _⟩ := h
    rfl
  · obtain ⟨z, ea, pa, evs, pvs, es, B, rfl, hea, iE, hpa, iB, al, nd, el, bl, oke, okb, k⟩ := h
    have hr6 : Room 6 _ := hr
    have evl := iE.len
    have pvl := iB.len
    have zl := sizeLine_eq
    refine ⟨_, PSs.nox (pss_cons (ps_set (i := 2) scMh.nd rfl (.inl rfl) ND.pe_dnewN) (pss_cons (ps_for PassesOwn.never rfl (pi_list (pv 1)) (pg_name (i := 3) scMh.nd rfl (.inr rfl)) (pss_one (ND.ps_dputN (u9 hr) (pv 2) (pv 3) (ND.pe_dcN (own := [("head", 5)]) (g := gName 5) (tt := tYes) (tk := tVar 5) (tv := tC (.bl true)) (u9 hr) rfl scMh.nd (pi_list (pe_call Gm hr6 (by rfl) D.m.m.g D.m.m.F.kp D.m.m.b .nil pass0 (pa_cons (pe_lc (own := [("product", 4)]) (g := gName 4) rfl scMh.nd (pi_list (pv 0)) (blkOk_by (N := ["products", "starts", "found", "start", "product", "head"]) (sc := defScope sMaximalHeads) (by decide +kernel)) (fun _ _ _ _ _ => pg_name (i := 4) scMh.nd rfl (Or.inl rfl)) (fun _ _ _ _ _ => pts_nil) (fun _ _ _ _ _ => (pe_op (r := rCatA K) (by exact op_catA) (pv 4) (pv 3)))) pa_nil))) (blkOk_by (N := ["products", "starts", "found", "start", "product", "head"]) (sc := defScope sMaximalHeads) (by decide +kernel)) (fun _ _ _ _ _ => pg_name (i := 5) scMh.nd rfl (Or.inl rfl)) (fun _ _ _ _ _ => pts_nil) (fun _ _ _ _ _ => (pv 5)) (fun _ _ _ _ _ => pe_bl)) rfl))) (pss_one (ps_ret (pv 2))))), ?_⟩
    intro D0 hD0
    have s0 := same_upd (o := DO P w D0 []) hD0
    refine ⟨.ref ea, rfl, ea, rfl, ⟨_, same_lst s0 hea⟩, for_it (walk_list (xs := evs)) (fun i σ H' => ∃ (rows : List Ent) (rs : List (List Fc × List (List Fc))) (y3 : Option V), σ = [some (.ref pa), some (.ref ea), some (.ref D0), y3, none, none] ∧ H' D0 = some (DO P w D0 rows) ∧ IsTs P w K H' rows rs ∧ rs.map (·.1) = es.take i ∧ (∀ r ∈ rs, MaxOf (B.map fun q => (fun e q : List Fc => q ++ e) r.1 q) r.2) ∧ (∀ e ∈ rows, e.2.2 ≠ .ref D0) ∧ Same H H')
      ⟨[], [], _, rfl, upd_same, .nil, rfl, fun r h => (nomatch h), fun e h => (nomatch h), s0⟩ (fun _ _ _ _ ⟨_, _, _, _, _, _, _, _, _, sm⟩ => same_lst sm hea) ?_ ?_⟩
    · rintro i x σ G G' hi ⟨rows, rs, y3, rfl, gD, iT, er, mx, nod, sm⟩ ⟨rfl, hx⟩
      obtain ⟨e, he, ise⟩ := iE.get i x hx
      have em := List.mem_of_getElem? he
      have rsl := iT.len
      have rl : rs.length ≤ 1000 := by
        have := congrArg List.length er
        rw [List.length_map, List.length_take] at this
        omega
      obtain ⟨b, bs, rfl, hb, iFe⟩ := id ise
      -- the products put together
      refine ⟨.ref pa, rfl, pa, rfl, ⟨_, same_lst sm hpa⟩, fun L hL => ?_⟩
      refine lc_it (walk_list (xs := pvs)) (fun j H' => ∃ us : List V, H' L = some (.lst us) ∧ IsL K H' us ((B.take j).map fun q => q ++ e) ∧ Same G' H') ⟨[], upd_same, .nil, same_upd hL⟩ (fun _ _ _ ⟨_, _, _, s2⟩ => same_lst (sm.trans s2) hpa) ?_ ?_
      · rintro j y M M' hj ⟨us, gL, iU, s2⟩ ⟨rfl, hy⟩
        obtain ⟨q, hq, c, cs, rfl, hc, iFq⟩ := iB.get j y hy
        have qm := List.mem_of_getElem? hq
        have s3 := sm.trans s2
        have l1 := iFe.len
        have l2 := iFq.len
        have l3 := (oke e em).2
        have l4 := (okb q qm).2
        have usl := iU.len
        rw [List.length_map, List.length_take] at usl
        refine ⟨rfl, yes ⟨_, rfl, _, rfl, cat_any (same_tup s3 _ _ (by assumption)) (same_tup s3 _ _ (by assumption)) (by omega) fun H3 p s4 hp => ⟨us, s4 _ _ gL, by omega, us ++ [.ref p], upd_same, ?_, fun b o e => (upd_ne (ne_of_none e hL)).trans ((s2.trans s4) _ _ e)⟩⟩⟩
        have tk : B.take (j + 1) = B.take j ++ [q] := by rw [List.take_add_one, hq]; rfl
        rw [tk, List.map_append]
        have isq : IsP K H3 (.ref p) (q ++ e) := ⟨p, _, rfl, hp, IsFs.app ((by first | exact iFe | exact iFq : IsFs K H _ _).mono (same_tup (s3.trans s4))) ((by first | exact iFq | exact iFe : IsFs K H _ _).mono (same_tup (s3.trans s4)))⟩
        exact ((iU.mono (same_tup s4)).app (.cons isq .nil)).mono (upd_tup (s4 _ _ gL))
      rintro M ⟨us, gL, iU, s2⟩
      rw [pvl, List.take_length] at iU
      have okc : ∀ q ∈ B.map (fun q => q ++ e), q.length ≤ 10000 ∧ ∀ f ∈ q, Low f := fun q hq => by
        obtain ⟨q0, hq0, rfl⟩ := List.mem_map.mp hq
        obtain ⟨o1, l1⟩ := oke e em
        obtain ⟨o2, l2⟩ := okb q0 hq0
        refine ⟨by rw [List.length_append]; omega, fun f hf => fok_low al ?_⟩
        rcases List.mem_append.mp hf with h | h
        · first | exact o1 f h | exact o2 f h
        · first | exact o2 f h | exact o1 f h
      refine ⟨L, us, _, rfl, SqL.of gL, iU, by rw [List.length_map]; exact bl, okc, fun H3 q ys zs s4 hq0 hq iZ M0 => ?_⟩
      have ysl := iZ.len
      have zsl : zs.length ≤ 1000000 := by
        have := M0.few al fun p hp f hf => by
          obtain ⟨q0, hq0, rfl⟩ := List.mem_map.mp hp
          rcases List.mem_append.mp hf with h | h
          · first | exact (oke e em).1 f h | exact (okb q0 hq0).1 f h
          · first | exact (okb q0 hq0).1 f h | exact (oke e em).1 f h
        rw [List.length_map] at this
        omega
      have znd : zs.Nodup := (M0.anti al fun p hp f hf => by
          obtain ⟨q0, hq0, rfl⟩ := List.mem_map.mp hp
          rcases List.mem_append.mp hf with h | h
          · first | exact (oke e em).1 f h | exact (okb q0 hq0).1 f h
          · first | exact (okb q0 hq0).1 f h | exact (oke e em).1 f h).2
      refine ⟨q, rfl, ⟨_, SqL.of hq⟩, fun D1 hD1 => ?_⟩
      refine ND.dcN_it (walk_list (xs := ys)) (fun j H' => ∃ kvs : List Ent, H' D1 = some (DO P w D1 kvs) ∧ RW K H' kvs (zs.take j) ∧ Same H3 H') ⟨[], upd_same, ⟨rfl, fun i e r h => by simp at h⟩, same_upd hD1⟩ (fun _ _ _ ⟨_, _, _, sm⟩ => SqL.of (sm _ _ hq)) ?_ ?_
      · rintro j x N N' hj ⟨kvs, gD1, rw', sN⟩ ⟨rfl, hx⟩
        obtain ⟨r, hr', isr⟩ := iZ.get j x hx
        obtain ⟨c, cs, rfl, hc⟩ := id (isr.mono (same_tup sN))
        have rwl := rw'.len
        have jl := (List.getElem?_eq_some_iff.mp hr').1
        rw [List.length_take] at rwl
        have nr : r ∉ zs.take j := fun h => by
          obtain ⟨l, hl⟩ := List.getElem?_of_mem h
          rw [List.getElem?_take] at hl
          split at hl
          · next lt =>
            have := (List.getElem?_inj (List.getElem?_eq_some_iff.mp hl).1 znd).mp (hl.trans hr'.symm)
            omega
          · cases hl
        have isc := isr.mono (same_tup sN)
        refine ⟨rfl, yes ⟨.ref c, rfl, c, kvs, prodKey r, rfl, gD1, rw'.oks, isP_nk isc, depth_prod _, by omega, _, upd_same, ?_, fun b o e => (upd_ne (ne_of_none e hD1)).trans (sN _ _ e)⟩⟩
        have ea' : zs.take (j + 1) = addR (zs.take j) r := by
          unfold addR
          rw [if_neg nr, List.take_add_one, hr']
          rfl
        rw [ea']
        exact (rw'.put isc).mono (upd_do gD1)
      rintro N ⟨kvs, gD1, rw', sN⟩
      rw [ysl, List.take_length] at rw'
      have sAll := (s2.trans s4).trans sN
      have sH := sm.trans sAll
      have gD2 := sAll _ _ gD
      have iT2 := iT.same sAll
      have isb : IsP K N (.ref b) e := ise.mono (same_tup sH)
      have nk : prodKey e ∉ rows.map (·.1) := fun h => by
        rw [iT.keys] at h
        obtain ⟨r, hr', e1⟩ := List.mem_map.mp h
        have rm : r.1 ∈ es.take i := by
          rw [← er]
          exact List.mem_map_of_mem hr'
        rw [prodKey_inj e1] at rm
        obtain ⟨l, hl⟩ := List.getElem?_of_mem rm
        rw [List.getElem?_take] at hl
        split at hl
        · next lt =>
          have := (List.getElem?_inj (List.getElem?_eq_some_iff.mp hl).1 nd).mp (hl.trans he.symm)
          omega
        · cases hl
      have nD : D0 ≠ D1 := ne_of_none ((s2.trans s4) _ _ gD) hD1
      refine ⟨.ref D0, rfl, .ref b, rfl, D0, b, rows, prodKey e, rfl, rfl, gD2, iT2.oks, isP_nk isb, depth_prod _, by omega, ?_⟩
      rw [putN_new nk]
      have mo : ∀ c xs, SqT K N c xs → SqT K (upd N D0 (DO P w D0 (rows ++ [(prodKey e, b, .ref D1)]))) c xs := upd_do gD2
      refine ⟨_, rs ++ [(e, zs)], _, rfl, upd_same, ?_, ?_, fun r hr' => ?_, fun x hx => ?_, fun c o e => (upd_ne (ne_of_none e hD0)).trans (sH _ _ e)⟩
      · refine (iT2.snoc isb gD1 rw').mono mo fun x hx D kvs ex hD => (upd_ne fun z => ?_).trans hD
        subst z
        rcases List.mem_append.mp hx with h | h
        · exact nod x h ex
        · rw [List.mem_singleton.mp h] at ex
          exact nD (by injection ex with z; exact z.symm)
      · rw [List.map_append, er, List.take_add_one, he]
        rfl
      · rcases List.mem_append.mp hr' with h | h
        · exact mx r h
        · rw [List.mem_singleton.mp h]
          exact M0
      · rcases List.mem_append.mp hx with h | h
        · exact nod x h
        · rw [List.mem_singleton.mp h]
          exact fun ex => nD (by injection ex with z; exact z.symm)
    · rintro σ G ⟨rows, rs, y3, rfl, gD, iT, er, mx, nod, sm⟩
      rw [evl, List.take_length] at er
      exact ⟨.ref D0, rfl, k _ _ _ _ sm gD iT er mx⟩
end

end DW
/-! concatenation -/
namespace DW
open PySem PySem.Spec PyProof.Rows L2 TL
set_option autoImplicit false
open ND (Ent DO KOks NK NKs valN putN setN keyVs)
theorem u16 {k : Nat} {A : Around} (hr : Room k A) : A.units + 16 < cLine := by
  have := hr.un
  omega
theorem u66 {k : Nat} {A : Around} (hr : Room k A) : A.units + 66 < cLine := by
  have := hr.un
  omega
theorem unmap {α β : Type} (f : α → β) : ∀ {l m : List β}, l.Perm m → ∀ T : List α, T.map f = l → ∃ T' : List α, T'.Perm T ∧ T'.map f = m := by
  intro l m p
  induction p with
  | nil => exact fun T h => ⟨T, List.Perm.refl _, h⟩
  | cons x _ ih =>
    intro T h
    match T, h with
    | t :: T, h =>
      rw [List.map_cons] at h
      injection h with h1 h2
      obtain ⟨T', p1, e1⟩ := ih T h2
      exact ⟨t :: T', p1.cons t, by rw [List.map_cons, h1, e1]⟩
  | swap x y l =>
    intro T h
    match T, h with
    | t :: u :: T, h =>
      rw [List.map_cons, List.map_cons] at h
      injection h with h1 h2
      injection h2 with h2 h3
      exact ⟨u :: t :: T, List.Perm.swap t u T, by rw [List.map_cons, List.map_cons, h1, h2, h3]⟩
  | trans _ _ ih1 ih2 =>
    intro T h
    obtain ⟨T1, p1, e1⟩ := ih1 T h
    obtain ⟨T2, p2, e2⟩ := ih2 T1 e1
    exact ⟨T2, p2.trans p1, e2⟩
/-- a set of products -/
abbrev AP : Type := Addr × List Fc
def apK (t : AP) : NSet.KIt := (t.1, prodKey t.2)
theorem fac_alike (f g : Fc) : PySem.W.alike (facKey f).data (facKey g).data = true := by
  unfold facKey
  simp [NestedKey.data, NestedKey.datas, PySem.W.alike, PySem.W.alikeAll]
theorem prod_alike : ∀ p q : List Fc, PySem.W.alikeAll (NestedKey.datas (p.map facKey)) (NestedKey.datas (q.map facKey)) = true
  | [], _ => by simp [NestedKey.datas, PySem.W.alikeAll]
  | f :: p, [] => by simp [NestedKey.datas, PySem.W.alikeAll]
  | f :: p, g :: q => by
    rw [List.map_cons, List.map_cons, NestedKey.datas, NestedKey.datas, PySem.W.alikeAll, fac_alike, prod_alike p q]
    rfl
theorem key_alike (p q : List Fc) : PySem.W.alike (prodKey p).data (prodKey q).data = true := by
  unfold prodKey
  rw [NestedKey.data, NestedKey.data]
  simp only [PySem.W.alike]
  exact prod_alike p q
theorem cut_last (xs : List V) : cutV xs (some (-1)) none = xs.drop (xs.length - 1) := by
  unfold cutV
  have e1 : HT.sIx xs.length 0 (some (-1)) = xs.length - 1 := by
    show (if (-1 : Int) < 0 then ((-1 : Int) + (xs.length : Int)).toNat else min (-1 : Int).toNat xs.length) = xs.length - 1
    rw [if_pos (by decide)]
    omega
  rw [e1, HT.sIx_none]
  refine List.take_of_length_le ?_
  rw [List.length_drop]
  exact Nat.le_refl _
theorem cut_one (xs : List V) : cutV xs none (some 1) = xs.take 1 := by
  match xs with
  | [] => rfl
  | x :: r => exact cut_take (x :: r) (by decide) (by rw [List.length_cons]; omega)
def subs : List Nat → List (List Nat)
  | [] => [[]]
  | a :: l => subs l ++ (subs l).map (a :: ·)
theorem subs_len : ∀ l : List Nat, (subs l).length = 2 ^ l.length
  | [] => rfl
  | a :: l => by
    rw [subs, List.length_append, List.length_map, subs_len l, List.length_cons, Nat.pow_succ]
    omega
theorem mem_subs : ∀ {s l : List Nat}, s.Sublist l → s ∈ subs l
  | _, _, .slnil => List.mem_cons_self
  | _, _, .cons a h => List.mem_append_left _ (mem_subs h)
  | _, _, .cons₂ a h => List.mem_append_right _ (List.mem_map_of_mem (mem_subs h))
/-- no star, or one of those over the alphabet -/
def cand (z : Str) : List (List Fc) := [] :: (subs (tl z)).map fun cs => [(true, (⟨cs.toArray⟩ : Str))]
theorem cand_len {z : Str} (al : Alph z) : (cand z).length ≤ 9 := by
  unfold cand
  rw [List.length_cons, List.length_map, subs_len]
  have h3 : (tl z).length ≤ 3 := al.2.2.1
  have : 2 ^ (tl z).length ≤ 2 ^ 3 := Nat.pow_le_pow_right (by decide) h3
  omega
theorem star_cand {z : Str} {e : List Fc} (s : StarL e) (ok : ∀ f ∈ e, FOk z f) : e ∈ cand z := by
  rcases s with e | ⟨f, e, k⟩
  · rw [e]
    exact List.mem_cons_self
  · refine List.mem_cons_of_mem _ (List.mem_map.mpr ⟨tl f.2, mem_subs (ok f (by rw [e]; exact List.mem_cons_self)).2.1, ?_⟩)
    obtain ⟨b, x⟩ := f
    dsimp only at k
    subst k
    rw [e]
/-- what a set comprehension leaves -/
structure SetAt (w : World) (K : PySem.W.Frag) (M : List (List Fc)) (H : Hp) (D : Addr) (A : List (List Fc)) (g : List Fc → List Fc) (n : Nat) (T : List AP) : Prop where
  at_ : H D = some (NSet.SetO w D (T.map apK))
  isp : ∀ t ∈ T, IsP K H (.ref t.1) t.2
  mem : ∀ e, e ∈ T.map (·.2) ↔ ∃ p ∈ A.take n, e = g p
  nd : (T.map (·.2)).Nodup
  sub : ∀ e ∈ T.map (·.2), e ∈ M
theorem SetAt.nks {w : World} {K : PySem.W.Frag} {M : List (List Fc)} {H : Hp} {D : Addr} {A : List (List Fc)} {g : List Fc → List Fc} {n : Nat} {T : List AP} (h : SetAt w K M H D A g n T) : NSet.NKs1 K H (T.map apK) := fun z hz => by
  obtain ⟨t, ht, rfl⟩ := List.mem_map.mp hz
  exact ⟨isP_nk (h.isp t ht), depth_prod _⟩
theorem SetAt.same {w : World} {K : PySem.W.Frag} {M : List (List Fc)} {H H' : Hp} {D : Addr} {A : List (List Fc)} {g : List Fc → List Fc} {n : Nat} {T : List AP} (h : SetAt w K M H D A g n T) (s : Same H H') : SetAt w K M H' D A g n T := ⟨s _ _ h.at_, fun t ht => (h.isp t ht).mono (same_tup s), h.mem, h.nd, h.sub⟩
theorem SetAt.few {w : World} {K : PySem.W.Frag} {M : List (List Fc)} {H : Hp} {D : Addr} {A : List (List Fc)} {g : List Fc → List Fc} {n : Nat} {T : List AP} (h : SetAt w K M H D A g n T) : T.length ≤ M.length := by
  have := few_of _ _ h.nd h.sub
  rwa [List.length_map] at this
/-- one more item is put in -/
theorem SetAt.put {w : World} {K : PySem.W.Frag} {M : List (List Fc)} {H : Hp} {D : Addr} {A : List (List Fc)} {g : List Fc → List Fc} {n : Nat} {T : List AP} (h : SetAt w K M H D A g n T) {p : List Fc} {b : Addr} (hp : A[n]? = some p) (hb : IsP K H (.ref b) (g p)) (hm : g p ∈ M) (n60 : M.length ≤ 60) {N : Hp → Prop}
    (k : ∀ H' T', (∀ c o, c ≠ D → H c = some o → H' c = some o) → SetAt w K M H' D A g (n + 1) T' → N H') : NSet.putN1 w K D (.ref b) H N := by
  have tk : A.take (n + 1) = A.take n ++ [p] := by rw [List.take_add_one, hp]; rfl
  have keys : (T.map apK).map (·.2) = (T.map (·.2)).map prodKey := by rw [List.map_map, List.map_map]; rfl
  have inK : prodKey (g p) ∈ (T.map apK).map (·.2) ↔ g p ∈ T.map (·.2) := by
    rw [keys]
    constructor
    · intro h
      obtain ⟨e, he, q⟩ := List.mem_map.mp h
      rw [← prodKey_inj q]
      exact he
    · exact fun h => List.mem_map_of_mem h
  have nt : ∀ o b xs, SqT K H b xs → SqT K (upd H D o) b xs := fun o b xs q => by
    rcases q with (q | ⟨u, q⟩) | q
    · exact .inl (.inl ((upd_ne fun z => by rw [z, h.at_] at q; cases q).trans q))
    · exact .inl (.inr ⟨u, (upd_ne fun z => by rw [z, h.at_] at q; cases q).trans q⟩)
    · exact .inr q
  refine ⟨b, prodKey (g p), T.map apK, rfl, h.at_, h.nks, isP_nk hb, depth_prod _, ?_, fun L' c1 c2 => ?_⟩
  · rw [List.length_map]
    have := h.few
    omega
  · by_cases m : g p ∈ T.map (·.2)
    · rw [c1 (inK.mpr m)]
      refine k _ T (fun c o ne e => (upd_ne ne).trans e) ⟨upd_same, fun t ht => (h.isp t ht).mono (nt _), fun e => ?_, h.nd, h.sub⟩
      rw [h.mem, tk]
      constructor
      · rintro ⟨q, hq, rfl⟩
        exact ⟨q, List.mem_append_left _ hq, rfl⟩
      · rintro ⟨q, hq, rfl⟩
        rcases List.mem_append.mp hq with z | z
        · exact ⟨q, z, rfl⟩
        · rw [List.mem_singleton.mp z]
          exact (h.mem _).mp m
    · obtain ⟨T', p1, e1⟩ := unmap apK (c2 fun z => m (inK.mp z)).symm ((b, g p) :: T) rfl
      rw [← e1]
      refine k _ T' (fun c o ne e => (upd_ne ne).trans e) ⟨upd_same, fun t ht => ?_, fun e => ?_, (p1.map (·.2)).nodup_iff.mpr (List.nodup_cons.mpr ⟨m, h.nd⟩), fun e he => ?_⟩
      · rcases List.mem_cons.mp (p1.mem_iff.mp ht) with z | z
        · rw [z]
          exact hb.mono (nt _)
        · exact (h.isp t z).mono (nt _)
      · rw [(p1.map (·.2)).mem_iff, List.map_cons, List.mem_cons, h.mem, tk]
        constructor
        · rintro (rfl | ⟨q, hq, rfl⟩)
          · exact ⟨p, List.mem_append_right _ (List.mem_singleton.mpr rfl), rfl⟩
          · exact ⟨q, List.mem_append_left _ hq, rfl⟩
        · rintro ⟨q, hq, rfl⟩
          rcases List.mem_append.mp hq with z | z
          · exact .inr ⟨q, z, rfl⟩
          · rw [List.mem_singleton.mp z]
            exact .inl rfl
      · rcases List.mem_cons.mp ((p1.map (·.2)).mem_iff.mp he) with z | z
        · rw [z]
          exact hm
        · exact h.sub e z
/-- sorted of it -/
theorem SetAt.sorted {w : World} {K : PySem.W.Frag} {M : List (List Fc)} {H : Hp} {D : Addr} {A : List (List Fc)} {g : List Fc → List Fc} {T : List AP} {Q : VK} (h : SetAt w K M H D A g A.length T)
    (k : ∀ H' p evs es, Same H H' → H' p = some (.lst evs) → IsL K H' evs es → es.Nodup → (∀ e, e ∈ es ↔ ∃ q ∈ A, e = g q) → es.length ≤ M.length → Q (.ref p) H') : NSet.rSortN K w [.ref D] H Q := by
  refine ⟨D, T.map apK, rfl, h.at_, h.nks, fun y hy z hz => ?_, fun z hz => ?_, fun M0 p pm nd fw hp => ?_⟩
  · obtain ⟨t, _, rfl⟩ := List.mem_map.mp hy
    obtain ⟨u, _, rfl⟩ := List.mem_map.mp hz
    exact key_alike _ _
  · obtain ⟨t, _, rfl⟩ := List.mem_map.mp hz
    exact ⟨_, rfl⟩
  · obtain ⟨T1, p1, e1⟩ := unmap apK (pm.symm.trans (List.mergeSort_perm M0 NSet.leN).symm) T rfl
    have nd2 : ((T1.map apK).map (·.2)).Nodup := by
      rw [e1]
      exact ((List.mergeSort_perm M0 NSet.leN).map _).nodup_iff.mpr nd
    have e2 : (T1.map apK).map (·.2) = (T1.map (·.2)).map prodKey := by rw [List.map_map, List.map_map]; rfl
    rw [e2] at nd2
    have ev : ((T1.map apK).map fun z => V.ref z.1) = T1.map fun t => V.ref t.1 := by rw [List.map_map]; rfl
    rw [← e1, ev]
    have s1 := same_upd (o := .lst (T1.map fun t => V.ref t.1)) hp
    have gen : ∀ l : List AP, (∀ t ∈ l, t ∈ T1) → IsL K (upd H p (.lst (T1.map fun t => V.ref t.1))) (l.map fun t => V.ref t.1) (l.map (·.2)) := by
      intro l
      induction l with
      | nil => exact fun _ => .nil
      | cons t l ih => exact fun hl => .cons ((h.isp t (p1.mem_iff.mp (hl t List.mem_cons_self))).mono (same_tup s1)) (ih fun u hu => hl u (List.mem_cons_of_mem _ hu))
    refine k _ p _ (T1.map (·.2)) s1 upd_same (gen T1 fun _ q => q) ?_ (fun e => ?_) ?_
    · exact List.Pairwise.of_map prodKey (fun _ _ ne e => ne (congrArg prodKey e)) nd2
    · rw [(p1.map (·.2)).mem_iff, h.mem, List.take_length]
    · rw [List.length_map, p1.length_eq]
      exact h.few
/-- what is looked up for an end -/
def lookT (rs : List (List Fc × List (List Fc))) (e : List Fc) : List (List Fc) := ((rs.find? fun r => decide (r.1 = e)).map (·.2)).getD []
theorem lookT_mem {rs : List (List Fc × List (List Fc))} {e : List Fc} (h : e ∈ rs.map (·.1)) : (e, lookT rs e) ∈ rs := by
  unfold lookT
  cases q : rs.find? fun r => decide (r.1 = e) with
  | none =>
    obtain ⟨r, hr, er⟩ := List.mem_map.mp h
    exact absurd (decide_eq_true er) (by simpa using List.find?_eq_none.mp q r hr)
  | some r =>
    have e1 : r.1 = e := of_decide_eq_true (List.find?_some (p := fun r : List Fc × List (List Fc) => decide (r.1 = e)) q)
    rw [← e1]
    exact List.mem_of_find?_eq_some q
def GotC (A B : List (List Fc)) (T Hd : List Fc → List (List Fc)) (i j : Nat) (r : List Fc) : Prop := ∃ x, Kept A B T Hd x ∧ r = red (x.1 ++ x.2) ∧ (x.1 ∈ A.take i ∨ (A[i]? = some x.1 ∧ x.2 ∈ B.take j))
theorem gotC_next {A B : List (List Fc)} {T Hd : List Fc → List (List Fc)} {i : Nat} {p : List Fc} (hp : A[i]? = some p) (r : List Fc) : GotC A B T Hd i B.length r ↔ GotC A B T Hd (i + 1) 0 r := by
  unfold GotC
  rw [List.take_length, List.take_zero]
  have tk : A.take (i + 1) = A.take i ++ [p] := by rw [List.take_add_one, hp]; rfl
  rw [tk]
  constructor
  · rintro ⟨x, kx, er, h⟩
    refine ⟨x, kx, er, .inl ?_⟩
    rcases h with h | ⟨h, _⟩
    · exact List.mem_append_left _ h
    · rw [hp] at h
      rw [← Option.some.inj h]
      exact List.mem_append_right _ (List.mem_singleton.mpr rfl)
  · rintro ⟨x, kx, er, h⟩
    refine ⟨x, kx, er, ?_⟩
    rcases h with h | ⟨_, h⟩
    · rcases List.mem_append.mp h with h | h
      · exact .inl h
      · exact .inr ⟨by rw [List.mem_singleton.mp h]; exact hp, kx.2.1⟩
    · cases h
theorem gotC_step {A B : List (List Fc)} {T Hd : List Fc → List (List Fc)} {i j : Nat} {p q : List Fc} (hp : A[i]? = some p) (hq : B[j]? = some q) (r : List Fc) : GotC A B T Hd i (j + 1) r ↔ (GotC A B T Hd i j r ∨ (Kept A B T Hd (p, q) ∧ r = red (p ++ q))) := by
  unfold GotC
  have tk : B.take (j + 1) = B.take j ++ [q] := by rw [List.take_add_one, hq]; rfl
  rw [tk]
  constructor
  · rintro ⟨x, kx, er, h | ⟨h1, h2⟩⟩
    · exact .inl ⟨x, kx, er, .inl h⟩
    · rcases List.mem_append.mp h2 with h | h
      · exact .inl ⟨x, kx, er, .inr ⟨h1, h⟩⟩
      · rw [hp] at h1
        have e1 := Option.some.inj h1
        have e2 := List.mem_singleton.mp h
        have ex : x = (p, q) := Prod.ext e1.symm e2
        subst ex
        exact .inr ⟨kx, er⟩
  · rintro (⟨x, kx, er, h⟩ | ⟨kx, er⟩)
    · exact ⟨x, kx, er, h.imp id fun h => ⟨h.1, List.mem_append_left _ h.2⟩⟩
    · exact ⟨(p, q), kx, er, .inr ⟨hp, List.mem_append_right _ (List.mem_singleton.mpr rfl)⟩⟩
theorem gotC_all {A B : List (List Fc)} {T Hd : List Fc → List (List Fc)} (r : List Fc) : GotC A B T Hd A.length 0 r ↔ ∃ x, Kept A B T Hd x ∧ r = red (x.1 ++ x.2) := by
  unfold GotC
  rw [List.take_length]
  constructor
  · rintro ⟨x, kx, er, _⟩
    exact ⟨x, kx, er⟩
  · rintro ⟨x, kx, er⟩
    exact ⟨x, kx, er, .inl kx.1⟩
def spCat (K : PySem.W.Frag) (C : Addr) : Sp := fun vs H Q _ => ∃ (x y : Addr) (z : Str) (A B : List (List Fc)), vs = [.ref x, .ref y] ∧ LaAt K C H x z A ∧ LaAt K C H y z B ∧ Alph z ∧ Can z A ∧ Can z B ∧ A.length ≤ 1000000 ∧ B.length ≤ 1000000 ∧ A.length * B.length ≤ 10000000 ∧ (∀ q ∈ A, q.length ≤ 1000) ∧ (∀ q ∈ B, q.length ≤ 1000) ∧
  ∀ H' v zs, Same H H' → LaNew K C H H' v z zs → Can z zs → (∀ u, (∃ r ∈ zs, Lg r u) ↔ ∃ p ∈ A, ∃ q ∈ B, Lg (p ++ q) u) → (∀ r ∈ zs, ∃ p ∈ A, ∃ q ∈ B, r = red (p ++ q)) → zs.length ≤ A.length * B.length → Q (.ref v) H'
structure DfCat (K : PySem.W.Frag) (mg : Str → Option Value) where
  c : Df K mg "concatenation" sConcatenation ["one", "other"]
  s : Df K mg "stars_among" sStarsAmong ["factors"]
  t : Df K mg "maximal_tails" sMaximalTails ["ends", "products"]
  h : Df K mg "maximal_heads" sMaximalHeads ["products", "starts"]
  mx : DfMx K mg
  m : Df K mg "language_of_maximal" sLanguageOfMaximal ["alphabet", "products"]
  a : Df K mg "check_alphabets" sCheckAlphabets ["one", "other"]
  L : DfLa K mg
section
variable {P : Program} {w : World} {K : PySem.W.Frag} {mg : Str → Option Value} {base : Heap}
theorem scCat : FnScope ["one", "other", "firsts", "seconds", "tails", "heads", "found", "first", "second", "end", "start", "product"] ["one", "other"] (defScope sConcatenation) := ⟨rfl, rfl, rfl, by decide +kernel, rfl, by decide +kernel, by decide +kernel⟩
theorem ok_cat (D : DfCat K mg) (C2 : DfC2 K mg) (eC : D.L.C = C2.C) : FnOk P w K mg base CX0 10 D.c.f D.c.fd ["one", "other"] (spCat K D.L.C) := by
  let Ds := D.s
  let Dt := D.t
  let Dh := D.h
  let Dm := D.m
  let Dc := D.a
  have ms : mg "sorted" = none := D.mx.bw.ms
  have Gs : FnOk P w K mg base CX0 1 Ds.f Ds.fd ["factors"] (spSa K) := ok_sa Ds D.mx.mt
  have Gt : FnOk P w K mg base CX0 7 Dt.f Dt.fd ["ends", "products"] (spMt P w K) := ok_mt ⟨D.t, D.mx⟩
  have Gh : FnOk P w K mg base CX0 7 Dh.f Dh.fd ["products", "starts"] (spMh P w K) := ok_mh ⟨D.h, D.mx⟩
  have Gr : FnOk P w K mg base CX0 2 D.mx.r.f D.mx.r.fd ["product"] (spRd K) := ok_rd D.mx.r D.mx.incl.s D.mx.ma D.mx.mt
  have Gw : FnOk P w K mg base CX0 5 D.mx.bw.b.f D.mx.bw.b.fd ["products"] (spBwD P w K) := ok_bwd D.mx.bw
  have Gm : FnOk P w K mg base CX0 9 Dm.f Dm.fd ["alphabet", "products"] (spLom K D.L.C) := ok_lom D.m D.L
  have Gp : FnOk P w K mg base CX0 1 C2.p.f C2.p.fd ["self"] (spLaP K C2.C) := ok_laP C2 D.L.mli
  have Ga : FnOk P w K mg base CX0 1 C2.a.f C2.a.fd ["self"] (spLaA K C2.C) := ok_laA C2
  have Gc : FnOk P w K mg base CX0 2 Dc.f Dc.fd ["one", "other"] (spCA0 K C2.C) := ok_ca0 Dc C2
  refine D.c.F.ok scCat (fun vs H Q E h => ?_) (fun cdv A0 outer s H vs Q E hr h => ?_)
  · obtain ⟨x, y, z, A, B, rfl, _⟩ := h
    rfl
  · obtain ⟨x, y, z, A, B, rfl, la, lb, al, cA, cB, Al, Bl, ABl, Aq, Bq, k⟩ := h
    rw [eC] at la lb k
    have hr1 : Room 1 _ := hr.mono (by decide)
    have hr2 : Room 2 _ := hr.mono (by decide)
    have hr5 : Room 5 _ := hr.mono (by decide)
    have hr7 : Room 7 _ := hr.mono (by decide)
    have hr9 : Room 9 _ := hr
    have zl := sizeLine_eq
    have c9 := cand_len al
    refine ⟨_, PSs.nox (pss_cons (ps_expr (pe_call Gc hr2 (by rfl) Dc.g Dc.F.kp Dc.b .nil pass0 (pa_cons (pv 0) (pa_cons (pv 1) pa_nil)))) (pss_cons (ps_par (i := 2) (j := 3) rfl scCat.nd rfl rfl (by decide) rfl rfl (pa_cons (pe_meth0 (pv 0) C2.cl C2.mtp Gp hr1 C2.p.b .nil pass0) (pa_cons (pe_meth0 (pv 1) C2.cl C2.mtp Gp hr1 C2.p.b .nil pass0) pa_nil)) (by rfl)) (pss_cons (ps_set (i := 4) scCat.nd rfl (.inl rfl) (pe_call Gt hr7 (by rfl) Dt.g Dt.F.kp Dt.b .nil pass0 (pa_cons (pe_callB (NSet.cr_sortN rfl (u66 hr)) (by rfl) ms (by decide +kernel) (pa_cons (NSet.pe_sc (own := [("product", 11)]) (g := gName 11) (tt := tYes) (NSet.adds_N _ _ _) (NSet.setO_fresh _ _) (u16 hr) rfl scCat.nd (pi_list (pv 2)) (blkOk_by (N := ["one", "other", "firsts", "seconds", "tails", "heads", "found", "first", "second", "end", "start", "product"]) (sc := defScope sConcatenation) (by decide +kernel)) (fun _ _ _ _ _ => pg_name (i := 11) scCat.nd rfl (Or.inl rfl)) (fun _ _ _ _ _ => pts_nil) (fun _ _ _ _ _ => (pe_call Gs hr1 (by rfl) Ds.g Ds.F.kp Ds.b .nil pass0 (pa_cons (pe_slice (r := rSlA K) (by exact sl_tupA) (pv 11) (po_some (pe_un un_neg pe_int)) po_none) pa_nil)))) pa_nil)) (pa_cons (pv 3) pa_nil)))) (pss_cons (ps_set (i := 5) scCat.nd rfl (.inl rfl) (pe_call Gh hr7 (by rfl) Dh.g Dh.F.kp Dh.b .nil pass0 (pa_cons (pv 2) (pa_cons (pe_callB (NSet.cr_sortN rfl (u66 hr)) (by rfl) ms (by decide +kernel) (pa_cons (NSet.pe_sc (own := [("product", 11)]) (g := gName 11) (tt := tYes) (NSet.adds_N _ _ _) (NSet.setO_fresh _ _) (u16 hr) rfl scCat.nd (pi_list (pv 3)) (blkOk_by (N := ["one", "other", "firsts", "seconds", "tails", "heads", "found", "first", "second", "end", "start", "product"]) (sc := defScope sConcatenation) (by decide +kernel)) (fun _ _ _ _ _ => pg_name (i := 11) scCat.nd rfl (Or.inl rfl)) (fun _ _ _ _ _ => pts_nil) (fun _ _ _ _ _ => (pe_call Gs hr1 (by rfl) Ds.g Ds.F.kp Ds.b .nil pass0 (pa_cons (pe_slice (r := rSlA K) (by exact sl_tupA) (pv 11) po_none (po_some pe_int)) pa_nil)))) pa_nil)) pa_nil)))) (pss_cons (ps_set (i := 6) scCat.nd rfl (.inl rfl) ND.pe_dnewN) (pss_cons (ps_for PassesOwn.never rfl (pi_list (pv 2)) (pg_name (i := 7) scCat.nd rfl (.inl rfl)) (pss_one (ps_for PassesOwn.never rfl (pi_list (pv 3)) (pg_name (i := 8) scCat.nd rfl (.inl rfl)) (pss_cons (ps_par (i := 9) (j := 10) rfl scCat.nd rfl rfl (by decide) rfl rfl (pa_cons (pe_call Gs hr1 (by rfl) Ds.g Ds.F.kp Ds.b .nil pass0 (pa_cons (pe_slice sl_tupA (pv 7) (po_some (pe_un un_neg pe_int)) po_none) pa_nil)) (pa_cons (pe_call Gs hr1 (by rfl) Ds.g Ds.F.kp Ds.b .nil pass0 (pa_cons (pe_slice sl_tupA (pv 8) po_none (po_some pe_int)) pa_nil)) pa_nil)) (by rfl)) (pss_one (ps_if (pw_and (pt_cmpR (ND.op_inN (u9 hr)) (pe_call Gr hr2 (by rfl) D.mx.r.g D.mx.r.F.kp D.mx.r.b .nil pass0 (pa_cons (pe_op op_catA (pv 9) (pv 8)) pa_nil)) (ND.pe_dgetN (u9 hr) (pv 4) (pv 9) (fun _ _ => rfl)) rfl) (pw_and1 (pt_cmpR (ND.op_inN (u9 hr)) (pe_call Gr hr2 (by rfl) D.mx.r.g D.mx.r.F.kp D.mx.r.b .nil pass0 (pa_cons (pe_op op_catA (pv 7) (pv 10)) pa_nil)) (ND.pe_dgetN (u9 hr) (pv 5) (pv 10) (fun _ _ => rfl)) rfl))).pt (pss_one (ND.ps_dputN (u9 hr) (pv 6) (pe_call Gr hr2 (by rfl) D.mx.r.g D.mx.r.F.kp D.mx.r.b .nil pass0 (pa_cons (pe_op op_catA (pv 7) (pv 8)) pa_nil)) pe_bl rfl)) pss_nil)))))) (pss_one (ps_ret (pe_call Gm hr9 (by rfl) Dm.g Dm.F.kp Dm.b .nil pass0 (pa_cons (pe_meth0 (pv 0) C2.cl C2.mta Ga hr1 C2.a.b .nil pass0) (pa_cons (pe_call Gw hr5 (by rfl) D.mx.bw.b.g D.mx.bw.b.F.kp D.mx.bw.b.b .nil pass0 (pa_cons (pv 6) pa_nil)) pa_nil))))))))))), ?_⟩
    refine ⟨.ref x, rfl, .ref y, rfl, x, y, z, A, B, rfl, la, lb, ?_⟩
    obtain ⟨dx, qx, ysx, h1, h2, h3⟩ := id la
    refine ⟨.ref x, rfl, x, dx, _, rfl, h1, flL_no _ _ (by decide) (by decide), x, z, A, rfl, la, fun H1 l1 us1 s1 nl1 hl1 i1 => ?_⟩
    obtain ⟨dy, qy, ysy, g1, g2, g3⟩ := id (lb.same s1)
    refine ⟨.ref y, rfl, y, dy, _, rfl, g1, flL_no _ _ (by decide) (by decide), y, z, B, rfl, lb.same s1, fun H2 l2 us2 s2 nl2 hl2 i2 => ?_⟩
    have u1 := i1.len
    have u2 := i2.len
    have hl1' := s2 _ _ hl1
    have i1' := i1.mono (same_tup s2)
    have s02 := s1.trans s2
    refine ⟨_, _, rfl, ?_⟩
    refine ⟨.ref l1, rfl, l1, rfl, ⟨_, SqL.of hl1'⟩, fun D1 hDD1 => ?_⟩
    refine NSet.sc_it (so := fun D => NSet.SetO w D []) (put := NSet.putN1 w K) (walk_list (xs := us1)) (fun i H' => ∃ T, SetAt w K (cand z) H' D1 A enS i T ∧ Same H2 H') ⟨[], ⟨upd_same, fun t h => (nomatch h), fun e => ⟨fun h => (nomatch h), fun ⟨p, hp, _⟩ => (nomatch hp)⟩, List.nodup_nil, fun e h => (nomatch h)⟩, same_upd hDD1⟩ (fun _ _ _ ⟨_, _, sm⟩ => SqL.of (sm _ _ hl1')) ?_ ?_
    · rintro i v G G' hi ⟨T, sA, sm⟩ ⟨rfl, hv⟩
      obtain ⟨p, hp, a, xs, rfl, ha, iF⟩ := i1'.get i v hv
      have pl := Aq p (List.mem_of_getElem? hp)
      have il := (List.getElem?_eq_some_iff.mp hp).1
      refine ⟨rfl, yes ⟨.ref a, rfl, 1, rfl, -1, rfl, ?_⟩⟩
      unfold tNoPart
      refine sl_any (same_tup sm _ _ ha) fun H3 a' s3 ha' => ?_
      rw [cut_last] at ha'
      have iF' : IsFs K H3 (xs.drop (xs.length - 1)) (p.drop (p.length - 1)) := by rw [iF.len]; exact (iF.mono (same_tup (sm.trans s3))).drop _
      refine ⟨a', _, _, rfl, ha', iF', by rw [List.length_drop]; omega, fun H4 b s4 isb => ?_⟩
      refine (sA.same (s3.trans s4)).put hp isb (star_cand (enS_star p) fun f hf => (cA.rz p (List.mem_of_getElem? hp)).ok f (enS_mem hf)) (by omega) fun H5 T5 kp sA5 => ⟨T5, sA5, fun c o e => kp c o (ne_of_none e hDD1) ((sm.trans (s3.trans s4)) _ _ e)⟩
    rintro G1 ⟨T1, sAD1, smD1⟩
    rw [u1] at sAD1
    unfold tNil
    refine SetAt.sorted sAD1 fun H3 e1 evs1 es1 se1 he1 ie1 nde1 meme1 lene1 => ?_
    have sA := smD1.trans se1
    refine ⟨.ref l2, rfl, z, e1, l2, evs1, us2, es1, B, rfl, SqL.of he1, ie1, SqL.of (sA _ _ hl2), i2.mono (same_tup sA), al, nde1, by omega, by omega, fun e he => ?_, fun q hq => ⟨(cB.rz q hq).ok, by have := Bq q hq; omega⟩, fun H4 Dt rows1 rs1 s4 hDt iT1 er1 mx1 => ?_⟩
    · obtain ⟨p, hp, rfl⟩ := (meme1 e).mp he
      exact ⟨fun f hf => (cA.rz p hp).ok f (enS_mem hf), Nat.le_trans (enS_len p) (by decide)⟩
    have sB := sA.trans s4
    have hl2' := sB _ _ hl2
    have i2' := i2.mono (same_tup sB)
    refine ⟨.ref l1, rfl, ?_⟩
    refine ⟨.ref l2, rfl, l2, rfl, ⟨_, SqL.of hl2'⟩, fun D2 hDD2 => ?_⟩
    refine NSet.sc_it (so := fun D => NSet.SetO w D []) (put := NSet.putN1 w K) (walk_list (xs := us2)) (fun i H' => ∃ T, SetAt w K (cand z) H' D2 B stS i T ∧ Same H4 H') ⟨[], ⟨upd_same, fun t h => (nomatch h), fun e => ⟨fun h => (nomatch h), fun ⟨p, hp, _⟩ => (nomatch hp)⟩, List.nodup_nil, fun e h => (nomatch h)⟩, same_upd hDD2⟩ (fun _ _ _ ⟨_, _, sm⟩ => SqL.of (sm _ _ hl2')) ?_ ?_
    · rintro i v G G' hi ⟨T, sA, sm⟩ ⟨rfl, hv⟩
      obtain ⟨p, hp, a, xs, rfl, ha, iF⟩ := i2'.get i v hv
      have pl := Bq p (List.mem_of_getElem? hp)
      have il := (List.getElem?_eq_some_iff.mp hp).1
      refine ⟨rfl, yes ⟨.ref a, rfl, ?_⟩⟩
      unfold tNoPart
      refine ⟨1, rfl, sl_any (same_tup sm _ _ ha) fun H3 a' s3 ha' => ?_⟩
      rw [cut_one] at ha'
      have iF' : IsFs K H3 (xs.take 1) (p.take 1) := (iF.mono (same_tup (sm.trans s3))).take _
      refine ⟨a', _, _, rfl, ha', iF', by rw [List.length_take]; omega, fun H4 b s4 isb => ?_⟩
      refine (sA.same (s3.trans s4)).put hp isb (star_cand (stS_star p) fun f hf => (cB.rz p (List.mem_of_getElem? hp)).ok f (stS_mem hf)) (by omega) fun H5 T5 kp sA5 => ⟨T5, sA5, fun c o e => kp c o (ne_of_none e hDD2) ((sm.trans (s3.trans s4)) _ _ e)⟩
    rintro G2 ⟨T2, sAD2, smD2⟩
    rw [u2] at sAD2
    refine SetAt.sorted sAD2 fun H5 e2 evs2 es2 se2 he2 ie2 nde2 meme2 lene2 => ?_
    have sC := smD2.trans se2
    refine ⟨z, e2, l1, evs2, us1, es2, A, rfl, SqL.of he2, ie2, SqL.of ((sB.trans sC) _ _ hl1'), i1'.mono (same_tup (sB.trans sC)), al, nde2, by omega, by omega, fun e he => ?_, fun q hq => ⟨(cA.rz q hq).ok, by have := Aq q hq; omega⟩, fun H6 Dh0 rows2 rs2 s6 hDh iT2 er2 mx2 => ?_⟩
    · obtain ⟨p, hp, rfl⟩ := (meme2 e).mp he
      exact ⟨fun f hf => (cB.rz p hp).ok f (stS_mem hf), Nat.le_trans (stS_len p) (by decide)⟩
    have sD := sB.trans (sC.trans s6)
    have hDt' := (sC.trans s6) _ _ hDt
    have iT1' := iT1.same (sC.trans s6)
    have CI : CatIn z A B (lookT rs1) (lookT rs2) := ⟨cA.rz, cB.rz, cA.an, cB.an, fun p hp => ?_, fun q hq => ?_⟩
    rotate_left
    · exact mx1 _ (lookT_mem (by rw [er1]; exact (meme1 _).mpr ⟨p, hp, rfl⟩))
    · exact mx2 _ (lookT_mem (by rw [er2]; exact (meme2 _).mpr ⟨q, hq, rfl⟩))
    intro D0 hD0
    have s0 := same_upd (o := DO P w D0 []) hD0
    have hl1D := sD.trans s0
    have e1n : (rs1.map (·.1)).Nodup := by rw [er1]; exact nde1
    have e2n : (rs2.map (·.1)).Nodup := by rw [er2]; exact nde2
    have nDt : D0 ≠ Dt := (ne_of_none hDt' hD0).symm
    -- what stands from here on
    have okA := cA.rz
    have okB := cB.rz
    have lsA : ∀ {p : List Fc}, p ∈ A → ∀ f ∈ p, (ls f).length ≤ 1000 := fun hp f hf => Nat.le_trans (fok_len al ((okA _ hp).ok f hf)) (by decide)
    have lsB : ∀ {q : List Fc}, q ∈ B → ∀ f ∈ q, (ls f).length ≤ 1000 := fun hq f hf => Nat.le_trans (fok_len al ((okB _ hq).ok f hf)) (by decide)
    refine ⟨.ref l1, rfl, l1, rfl, ⟨_, SqL.of (s0 _ _ ((sC.trans s6) _ _ (sB _ _ hl1')))⟩, for_it (walk_list (xs := us1)) (fun i σ H' => ∃ (fkv : List Ent) (fs : List (List Fc)) (y7 y8 y9 y10 : Option V), σ = [some (.ref x), some (.ref y), some (.ref l1), some (.ref l2), some (.ref Dt), some (.ref Dh0), some (.ref D0), y7, y8, y9, y10, none] ∧ H' D0 = some (DO P w D0 fkv) ∧ RW K H' fkv fs ∧ fs.Nodup ∧ (∀ r, r ∈ fs ↔ GotC A B (lookT rs1) (lookT rs2) i 0 r) ∧ fs.length ≤ i * B.length ∧ Same H6 H')
      ⟨[], [], _, _, _, _, rfl, upd_same, ⟨rfl, fun i e r h => by simp at h⟩, List.nodup_nil, fun r => ⟨fun h => (nomatch h), fun ⟨w, _, _, h⟩ => h.elim (fun h => (nomatch h)) fun h => (nomatch h.2)⟩, Nat.zero_le _, s0⟩ (fun _ _ _ _ ⟨_, _, _, _, _, _, _, _, _, _, _, _, sm⟩ => SqL.of (sm _ _ ((sC.trans s6) _ _ (sB _ _ hl1')))) ?_ ?_⟩
    · rintro i v1 σ G G' hi ⟨fkv, fs, y7, y8, y9, y10, rfl, gD, rw', fnd, fm, fl, sm⟩ ⟨rfl, hv1⟩
      obtain ⟨p, hp, a, xs, rfl, ha, iFp⟩ := i1'.get i v1 hv1
      have pm := List.mem_of_getElem? hp
      have il := (List.getElem?_eq_some_iff.mp hp).1
      have s26 := sB.trans (sC.trans s6)
      refine ⟨.ref l2, rfl, l2, rfl, ⟨_, SqL.of ((s26.trans sm) _ _ hl2)⟩, for_it (walk_list (xs := us2)) (fun j σ H' => ∃ (fkv : List Ent) (fs : List (List Fc)) (y8 y9 y10 : Option V), σ = [some (.ref x), some (.ref y), some (.ref l1), some (.ref l2), some (.ref Dt), some (.ref Dh0), some (.ref D0), some (.ref a), y8, y9, y10, none] ∧ H' D0 = some (DO P w D0 fkv) ∧ RW K H' fkv fs ∧ fs.Nodup ∧ (∀ r, r ∈ fs ↔ GotC A B (lookT rs1) (lookT rs2) i j r) ∧ fs.length ≤ i * B.length + j ∧ Same H6 H')
        ⟨fkv, fs, _, _, _, rfl, gD, rw', fnd, fm, fl, sm⟩ (fun _ _ _ _ ⟨_, _, _, _, _, _, _, _, _, _, _, sm⟩ => SqL.of ((s26.trans sm) _ _ hl2)) ?_ ?_⟩
      · rintro j v2 σ M M' hj ⟨fkv, fs, y8, y9, y10, rfl, gD, rw', fnd, fm, fl, sm⟩ ⟨rfl, hv2⟩
        obtain ⟨q, hq, c, ys, rfl, hc, iFq⟩ := i2.get j v2 hv2
        have qm := List.mem_of_getElem? hq
        have jl := (List.getElem?_eq_some_iff.mp hq).1
        have pl := Aq p pm
        have ql := Bq q qm
        have s2M := s26.trans sm
        have ha' := same_tup s2M _ _ ha
        have hc' := same_tup s2M _ _ hc
        have iFp' := iFp.mono (same_tup s2M)
        have iFq' := iFq.mono (same_tup s2M)
        have lp := iFp.len
        have lq := iFq.len
        -- end, start
        refine ⟨.ref a, rfl, 1, rfl, -1, rfl, ?_⟩
        unfold tNoPart
        refine sl_any ha' fun N1 b1 t1 hb1 => ?_
        rw [cut_last] at hb1
        refine ⟨b1, _, p.drop (p.length - 1), rfl, hb1, by rw [lp]; exact (iFp'.mono (same_tup t1)).drop _, by rw [List.length_drop]; omega, fun N2 b9 t2 is9 => ?_⟩
        have t12 := t1.trans t2
        refine ⟨.ref c, rfl, ?_⟩
        try unfold tNoPart
        refine ⟨1, rfl, sl_any (same_tup t12 _ _ hc') fun N3 b3 t3 hb3 => ?_⟩
        rw [cut_one] at hb3
        refine ⟨b3, _, q.take 1, rfl, hb3, (iFq'.mono (same_tup (t12.trans t3))).take _, by rw [List.length_take]; omega, fun N4 b10 t4 is10 => ?_⟩
        refine ⟨_, _, rfl, ?_⟩
        have t14 := t12.trans (t3.trans t4)
        have is9' : IsP K N4 (.ref b9) (enS p) := is9.mono (same_tup (t3.trans t4))
        have is10' : IsP K N4 (.ref b10) (stS q) := is10
        have eOk : ∀ f ∈ enS p, f ∈ p := fun f hf => enS_mem hf
        have sOk : ∀ f ∈ stS q, f ∈ q := fun f hf => stS_mem hf
        have el := enS_len p
        have sl := stS_len q
        obtain ⟨b9', xs9, e9, h9, iF9⟩ := id is9'
        cases e9
        obtain ⟨b10', xs10, e10, h10, iF10⟩ := id is10'
        cases e10
        have l9 := iF9.len
        have l10 := iF10.len
        -- the first question
        refine ⟨.ref b9, rfl, .ref c, rfl, cat_any h9 (same_tup t14 _ _ hc') (by omega) fun N5 b5 t5 hb5 => ?_⟩
        refine ⟨.ref b5, enS p ++ q, rfl, ⟨b5, _, rfl, hb5, (iF9.mono (same_tup t5)).app ((iFq'.mono (same_tup t14)).mono (same_tup t5))⟩, fun f hf => (List.mem_append.mp hf).elim (fun h => lsA pm f (eOk f h)) (lsB qm f), by rw [List.length_append]; omega, fun N6 u6 t6 is6 => ?_⟩
        obtain ⟨a6, xs6, rfl, _⟩ := id is6
        have t16 := t14.trans (t5.trans t6)
        have s6M := sm.trans t16
        have iTa := iT1'.same s6M
        obtain ⟨De, kv, hval, hDe, rwe⟩ := iTa.get _ _ (lookT_mem (rs := rs1) (by rw [er1]; exact (meme1 (enS p)).mpr ⟨p, pm, rfl⟩)) e1n
        refine ⟨.ref Dt, rfl, .ref b9, rfl, Dt, b9, rows1, prodKey (enS p), .ref De, rfl, rfl, ⟨.inl (s6M _ _ hDt'), iTa.oks, isP_nk (is9'.mono (same_tup (t5.trans t6))), depth_prod _⟩, hval, ?_⟩
        refine ⟨De, a6, kv, prodKey (red (enS p ++ q)), rfl, rfl, ⟨.inl hDe, rwe.oks, isP_nk is6, depth_prod _⟩, _, rfl, ?_⟩
        have q1 := rwe.has (red (enS p ++ q))
        have no : ¬ Kept A B (lookT rs1) (lookT rs2) (p, q) → ∀ {N : Hp}, Same M' N → ∃ (fkv : List Ent) (fs : List (List Fc)) (y8 y9 y10 : Option V), [some (V.ref x), some (.ref y), some (.ref l1), some (.ref l2), some (.ref Dt), some (.ref Dh0), some (.ref D0), some (.ref a), some (.ref c), some (.ref b9), some (.ref b10), none] = [some (.ref x), some (.ref y), some (.ref l1), some (.ref l2), some (.ref Dt), some (.ref Dh0), some (.ref D0), some (.ref a), y8, y9, y10, none] ∧ N D0 = some (DO P w D0 fkv) ∧ RW K N fkv fs ∧ fs.Nodup ∧ (∀ r, r ∈ fs ↔ GotC A B (lookT rs1) (lookT rs2) i (j + 1) r) ∧ fs.length ≤ i * B.length + (j + 1) ∧ Same H6 N := fun nk N t =>
          ⟨fkv, fs, _, _, _, rfl, t _ _ gD, rw'.mono (same_tup t), fnd, fun r => by rw [fm, gotC_step hp hq]; exact ⟨.inl, fun h => h.elim id fun h => absurd h.1 nk⟩, by omega, sm.trans t⟩
        refine ite2 (fun y1 => ?_) fun n1 => no (fun kx => n1 (q1.mpr kx.2.2.1)) t16
        -- the second
        have ha6 := same_tup t16 _ _ ha'
        have is10b := is10'.mono (same_tup (t5.trans t6))
        refine ⟨.ref a, rfl, .ref b10, rfl, cat_any ha6 (same_tup (t5.trans t6) _ _ h10) (by omega) fun N7 b7 t7 hb7 => ?_⟩
        refine ⟨.ref b7, p ++ stS q, rfl, ⟨b7, _, rfl, hb7, ((iFp'.mono (same_tup t16)).mono (same_tup t7)).app ((iF10.mono (same_tup (t5.trans t6))).mono (same_tup t7))⟩, fun f hf => (List.mem_append.mp hf).elim (lsA pm f) (fun h => lsB qm f (sOk f h)), by rw [List.length_append]; omega, fun N8 u8 t8 is8 => ?_⟩
        obtain ⟨a8, xs8, rfl, _⟩ := id is8
        have t18 := t16.trans (t7.trans t8)
        have s8M := sm.trans t18
        have iTb := iT2.same s8M
        obtain ⟨Df, kw, hval2, hDf, rwf⟩ := iTb.get _ _ (lookT_mem (rs := rs2) (by rw [er2]; exact (meme2 (stS q)).mpr ⟨q, qm, rfl⟩)) e2n
        refine ⟨.ref Dh0, rfl, .ref b10, rfl, Dh0, b10, rows2, prodKey (stS q), .ref Df, rfl, rfl, ⟨.inl (s8M _ _ hDh), iTb.oks, isP_nk (is10b.mono (same_tup (t7.trans t8))), depth_prod _⟩, hval2, ?_⟩
        refine ⟨Df, a8, kw, prodKey (red (p ++ stS q)), rfl, rfl, ⟨.inl hDf, rwf.oks, isP_nk is8, depth_prod _⟩, _, rfl, ?_⟩
        have q2 := rwf.has (red (p ++ stS q))
        refine ite2 (fun y2 => ?_) fun n2 => no (fun kx => n2 (q2.mpr kx.2.2.2)) t18
        have kx : Kept A B (lookT rs1) (lookT rs2) (p, q) := ⟨pm, qm, q1.mp y1, q2.mp y2⟩
        refine ⟨.ref D0, rfl, .ref a, rfl, .ref c, rfl, cat_any (same_tup t18 _ _ ha') (same_tup t18 _ _ hc') (by omega) fun N9 b11 t9 hb11 => ?_⟩
        refine ⟨.ref b11, p ++ q, rfl, ⟨b11, _, rfl, hb11, ((iFp'.mono (same_tup t18)).mono (same_tup t9)).app ((iFq'.mono (same_tup t18)).mono (same_tup t9))⟩, fun f hf => (List.mem_append.mp hf).elim (lsA pm f) (lsB qm f), by rw [List.length_append]; omega, fun N10 u10 t10 is11 => ?_⟩
        obtain ⟨a10, xs11, rfl, _⟩ := id is11
        have t20 := t18.trans (t9.trans t10)
        have gD20 := t20 _ _ gD
        have rw20 := rw'.mono (same_tup t20)
        have rwl := rw'.len
        have ab : (i + 1) * B.length ≤ A.length * B.length := Nat.mul_le_mul (by omega) (Nat.le_refl _)
        rw [Nat.add_mul, Nat.one_mul] at ab
        refine ⟨D0, a10, fkv, prodKey (red (p ++ q)), rfl, rfl, gD20, rw20.oks, isP_nk is11, depth_prod _, by omega, ?_⟩
        refine ⟨_, addR fs (red (p ++ q)), _, _, _, rfl, upd_same, (rw20.put is11).mono (upd_do gD20), addR_nd fnd, fun r => ?_, ?_, fun b o e => (upd_ne (ne_of_none e ?_)).trans ((sm.trans t20) _ _ e)⟩
        · rw [addR_mem, fm, gotC_step hp hq]
          exact ⟨fun h => h.imp id fun h => ⟨kx, h⟩, fun h => h.imp id fun h => h.2⟩
        · have : (addR fs (red (p ++ q))).length ≤ fs.length + 1 := by
            unfold addR
            split
            · exact Nat.le_succ _
            · rw [List.length_append]
              exact Nat.le_refl _
          omega
        · exact hD0
      · rintro σ M ⟨fkv, fs, y8, y9, y10, rfl, gD, rw', fnd, fm, fl, sm⟩
        rw [u2] at fm fl
        refine ⟨fkv, fs, _, _, _, _, rfl, gD, rw', fnd, fun r => (fm r).trans (gotC_next hp r), ?_, sm⟩
        rw [Nat.add_mul, Nat.one_mul]
        exact fl
    · rintro σ G ⟨fkv, fs, y7, y8, y9, y10, rfl, gD, rw', fnd, fm, fl, sm⟩
      rw [u1] at fm fl
      have mem : ∀ r, r ∈ fs ↔ ∃ x, Kept A B (lookT rs1) (lookT rs2) x ∧ r = red (x.1 ++ x.2) := fun r => (fm r).trans (gotC_all r)
      have sF := s02.trans (sB.trans ((sC.trans s6).trans sm))
      obtain ⟨dx', qx', ysx', k1, k2, k3⟩ := id (la.same sF)
      refine ⟨.ref x, rfl, x, dx', _, rfl, k1, flL_no _ _ (by decide) (by decide), x, z, A, rfl, la.same sF, ?_⟩
      refine ⟨.ref D0, rfl, D0, fkv, fs, rfl, .inl gD, rw', fun r hr => ?_, fun H8 p8 ys8 s8 np hp8 isl => ⟨p8, z, ys8, _, rfl, SqL.of hp8, isl, al, fun H9 v s9 La => ?_⟩⟩
      · obtain ⟨x, kx, rfl⟩ := (mem r).mp hr
        have o1 := CI.ok kx.1 kx.2.1
        have := red_le (x.1 ++ x.2)
        have := Aq _ kx.1
        have := Bq _ kx.2.1
        rw [List.length_append] at *
        exact ⟨fun f hf => Nat.le_trans (fok_len al (o1 f (red_mem hf))) (by decide), by omega⟩
      · rw [eC] at La
        have sAll := (sF.trans s8).trans s9
        refine k H9 v _ sAll (La.pre (sF.trans s8)) (CI.can al fnd mem) (fun u => CI.has al mem u) (fun r hr => ?_) ?_
        · obtain ⟨x, kx, rfl⟩ := (mem r).mp ((List.mergeSort_perm fs leP).mem_iff.mp hr)
          exact ⟨x.1, kx.1, x.2, kx.2.1, rfl⟩
        · rw [List.length_mergeSort]
          exact fl
end
end DW
/-! languages told by their words -/
namespace DW
open PySem PySem.Spec PyProof.Rows L2 TL
set_option autoImplicit false
theorem nilI {σ : L2.St} {H : Hp} {k : List V → Hp → Prop} (h : k [] H) : tNil σ H k := h
def Ha (zs : List (List Fc)) (u : List Nat) : Prop := ∃ q ∈ zs, Lg q u
structure Cl (z : Str) (zs : List (List Fc)) (n l : Nat) : Prop where
  can : Can z zs
  few : zs.length ≤ n
  len : ∀ q ∈ zs, q.length ≤ l
theorem Cl.ok {z : Str} {zs : List (List Fc)} {n l : Nat} (h : Cl z zs n l) : ∀ q ∈ zs, ∀ f ∈ q, FOk z f := fun q hq => (h.can.rz q hq).ok
theorem Cl.low {z : Str} {zs : List (List Fc)} {n l : Nat} (al : Alph z) (h : Cl z zs n l) : ∀ q ∈ zs, ∀ f ∈ q, Low f := fun q hq f hf => fok_low al (h.ok q hq f hf)
theorem Cl.mono {z : Str} {zs : List (List Fc)} {n l n' l' : Nat} (h : Cl z zs n l) (hn : n ≤ n') (hl : l ≤ l') : Cl z zs n' l' := ⟨h.can, Nat.le_trans h.few hn, fun q hq => Nat.le_trans (h.len q hq) hl⟩
theorem Cl.of {z : Str} (al : Alph z) {ps zs : List (List Fc)} (M : MaxOf ps zs) (ok : ∀ p ∈ ps, ∀ f ∈ p, FOk z f) {n l : Nat} (hn : ps.length ≤ n) (hl : ∀ p ∈ ps, p.length ≤ l) : Cl z zs n l := ⟨M.can al ok, Nat.le_trans (M.few al ok) hn, M.short hl⟩
theorem Cl.one {z : Str} (al : Alph z) {as bs : List (List Fc)} {n l m k : Nat} (a : Cl z as n l) (b : Cl z bs m k) (h : ∀ u, Ha as u ↔ Ha bs u) : as = bs := can_uniq2 al a.can b.can h
theorem Ha.less {zs : List (List Fc)} {u v : List Nat} (h : Ha zs (u ++ v)) : Ha zs v := by
  obtain ⟨q, hq, l⟩ := h
  exact ⟨q, hq, Lg.drop l⟩
theorem Ha.sub {zs : List (List Fc)} {u v : List Nat} (s : v.Sublist u) (h : Ha zs u) : Ha zs v := by
  obtain ⟨q, hq, l⟩ := h
  exact ⟨q, hq, Lg.sub l s⟩
theorem lg_overA {z : Str} {q : List Fc} (ok : ∀ f ∈ q, FOk z f) : ∀ {w : List Nat}, Lg q w → ∀ c ∈ w, c ∈ tl z
  | [], _, c, hc => (nomatch hc)
  | d :: w, h, c, hc => by
    rcases List.mem_cons.mp hc with e | e
    · obtain ⟨g, hg, hd⟩ := h.has
      rw [e]
      exact (ok g hg).2.1.subset hd
    · exact lg_overA ok h.tail c e
theorem Cl.over {z : Str} {zs : List (List Fc)} {n l : Nat} (h : Cl z zs n l) {u : List Nat} (a : Ha zs u) : ∀ c ∈ u, c ∈ tl z := by
  obtain ⟨q, hq, w⟩ := a
  exact lg_overA (h.ok q hq) w
theorem Ha.or {A B : List (List Fc)} {u : List Nat} : Ha (A ++ B) u ↔ Ha A u ∨ Ha B u := by
  unfold Ha
  constructor
  · rintro ⟨q, hq, l⟩
    rcases List.mem_append.mp hq with h | h
    · exact .inl ⟨q, h, l⟩
    · exact .inr ⟨q, h, l⟩
  · rintro (⟨q, h, l⟩ | ⟨q, h, l⟩)
    · exact ⟨q, List.mem_append_left _ h, l⟩
    · exact ⟨q, List.mem_append_right _ h, l⟩
theorem Ha.max {z : Str} (al : Alph z) {ps zs : List (List Fc)} (M : MaxOf ps zs) (ok : ∀ p ∈ ps, ∀ f ∈ p, FOk z f) (u : List Nat) : Ha zs u ↔ Ha ps u := by
  have C := M.can al ok
  exact (hasW_iff (fun q hq => fok_w1 (C.rz q hq).ok) u).symm.trans (M.has (fun p hp => fok_w1 (ok p hp)) u)
end DW
/-! union -/
namespace DW
open PySem PySem.Spec PyProof.Rows L2 TL
set_option autoImplicit false
section
variable {K : PySem.W.Frag} {C : Addr} {H : Hp} {Q : VK} {E : XK} {z : Str} {x y : Addr} {A B : List (List Fc)} {n l m k : Nat}
theorem un_go (al : Alph z) (lx : LaAt K C H x z A) (ly : LaAt K C H y z B) (a : Cl z A n l) (b : Cl z B m k) (hn : n + m ≤ 1000000) (hl : l ≤ 10000) (hk : k ≤ 10000)
    (go : ∀ H' v ws, Same H H' → LaAt K C H' v z ws → Cl z ws (n + m) (max l k) → (∀ u, Ha ws u ↔ Ha A u ∨ Ha B u) → Q (.ref v) H') : spUn0 K C [.ref x, .ref y] H Q E := by
  have ok : ∀ q ∈ A ++ B, ∀ f ∈ q, FOk z f := fun q hq => (List.mem_append.mp hq).elim (a.ok q) (b.ok q)
  have le : ∀ q ∈ A ++ B, q.length ≤ max l k := fun q hq => (List.mem_append.mp hq).elim (fun h => by have := a.len q h; omega) (fun h => by have := b.len q h; omega)
  have f1 := a.few
  have f2 := b.few
  refine ⟨x, y, z, A, B, rfl, lx, ly, al, by omega, fun q hq => ⟨by have := le q hq; omega, ok q hq⟩, fun H' v ws s _ Lv mo => ?_⟩
  exact go H' v ws s Lv (Cl.of al mo ok (by rw [List.length_append]; omega) le) fun u => (Ha.max al mo ok u).trans Ha.or
end
end DW
/-! concatenation -/
namespace DW
open PySem PySem.Spec PyProof.Rows L2 TL
set_option autoImplicit false
section
variable {K : PySem.W.Frag} {C : Addr} {H : Hp} {Q : VK} {E : XK} {z : Str} {x y : Addr} {A B : List (List Fc)} {n l m k : Nat}
theorem cat_go (al : Alph z) (lx : LaAt K C H x z A) (ly : LaAt K C H y z B) (a : Cl z A n l) (b : Cl z B m k) (hn : n ≤ 1000000) (hm : m ≤ 1000000) (nm : n * m ≤ 10000000) (hl : l ≤ 1000) (hk : k ≤ 1000)
    (go : ∀ H' v ws, Same H H' → LaAt K C H' v z ws → Cl z ws (n * m) (l + k) → (∀ u, Ha ws u ↔ ∃ u1 u2, u = u1 ++ u2 ∧ Ha A u1 ∧ Ha B u2) → Q (.ref v) H') : spCat K C [.ref x, .ref y] H Q E := by
  have f := Nat.mul_le_mul a.few b.few
  refine ⟨x, y, z, A, B, rfl, lx, ly, al, a.can, b.can, Nat.le_trans a.few hn, Nat.le_trans b.few hm, Nat.le_trans f nm, fun q hq => Nat.le_trans (a.len q hq) hl, fun q hq => Nat.le_trans (b.len q hq) hk, fun H' v ws s new can has fr cnt => ?_⟩
  refine go H' v ws s new.at ⟨can, Nat.le_trans cnt f, fun r hr => ?_⟩ fun u => (has u).trans ?_
  · obtain ⟨p, hp, q, hq, rfl⟩ := fr r hr
    have h1 := a.len p hp
    have h2 := b.len q hq
    have h3 := red_le (p ++ q)
    rw [List.length_append] at h3
    omega
  · constructor
    · rintro ⟨p, hp, q, hq, lg⟩
      obtain ⟨u1, u2, e, h1, h2⟩ := Lg.split lg
      exact ⟨u1, u2, e, ⟨p, hp, h1⟩, q, hq, h2⟩
    · rintro ⟨u1, u2, rfl, ⟨p, hp, h1⟩, q, hq, h2⟩
      exact ⟨p, hp, q, hq, Lg.app h1 h2⟩
end
end DW
/-! is_subset -/
namespace DW
open PySem PySem.Spec PyProof.Rows L2 TL
set_option autoImplicit false
theorem subL_iff3 {z : Str} {zs zs' : List (List Fc)} (C : Can z zs) (C' : Can z zs') : subL zs zs' = true ↔ ∀ u, Ha zs u → Ha zs' u := by
  constructor
  · rintro h u ⟨q, hq, l⟩
    unfold subL at h
    obtain ⟨m, hm, i⟩ := List.any_eq_true.mp (List.all_eq_true.mp h q hq)
    exact ⟨m, hm, inc_sound _ _ i u l⟩
  · intro h
    unfold subL
    rw [List.all_eq_true]
    intro q hq
    obtain ⟨m, hm, i⟩ := into_any (fok_w1 (C.rz q hq).ok) C'.rz fun u hu => h u ⟨q, hq, hu⟩
    exact List.any_eq_true.mpr ⟨m, hm, i⟩
section
variable {K : PySem.W.Frag} {C : Addr} {H : Hp} {Q : VK} {E : XK} {z : Str} {x y : Addr} {A B : List (List Fc)} {n l m k : Nat}
theorem sub_go (al : Alph z) (lx : LaAt K C H x z A) (ly : LaAt K C H y z B) (a : Cl z A n l) (b : Cl z B m k) (hn : n ≤ 1000000)
    (go : ∀ (t : Bool) H', Same H H' → (t = true ↔ ∀ u, Ha A u → Ha B u) → Q (.bl t) H') : spSub0 K C [.ref x, .ref y] H Q E :=
  ⟨x, y, z, A, B, rfl, lx, ly, a.low al, b.low al, Nat.le_trans a.few hn, fun H' s => go _ H' s (subL_iff3 a.can b.can)⟩
end
end DW
/-! reversal -/
namespace DW
open PySem PySem.Spec PyProof.Rows L2 TL
set_option autoImplicit false
theorem IsFs.rev {K : PySem.W.Frag} {H : Hp} {vs : List V} {fs : List Fc} (h : IsFs K H vs fs) : IsFs K H vs.reverse fs.reverse := by
  induction h with
  | nil => exact .nil
  | cons a r ih =>
    rw [List.reverse_cons, List.reverse_cons]
    exact ih.snoc a
def revP (zs : List (List Fc)) : List (List Fc) := (zs.map List.reverse).mergeSort leP
def spRev (K : PySem.W.Frag) (C : Addr) : Sp := fun vs H Q _ => ∃ (p : Addr) (z : Str) (zs : List (List Fc)), vs = [.ref p] ∧ LaAt K C H p z zs ∧ Alph z ∧ zs.length ≤ 4000000 ∧ (∀ q ∈ zs, q.length ≤ 10000 ∧ ∀ f ∈ q, FOk z f) ∧
  ∀ H' x, Same H H' → H x = none → LaAt K C H' x z (revP zs) → Q (.ref x) H'
section
variable {P : Program} {w : World} {K : PySem.W.Frag} {mg : Str → Option Value} {base : Heap}
theorem scRev : FnScope ["language", "products", "product"] ["language"] (defScope sReversal) := ⟨rfl, rfl, rfl, by decide +kernel, rfl, by decide +kernel, by decide +kernel⟩
theorem ok_rev (D : Df K mg "reversal" sReversal ["language"]) (Dl : Df K mg "language_of_maximal" sLanguageOfMaximal ["alphabet", "products"]) (L : DfLa K mg) (C : DfC2 K mg) (eC : L.C = C.C) : FnOk P w K mg base CX0 10 D.f D.fd ["language"] (spRev K C.C) := by
  have Gl : FnOk P w K mg base CX0 9 Dl.f Dl.fd ["alphabet", "products"] (spLom K C.C) := by rw [← eC]; exact ok_lom Dl L
  have Gp : FnOk P w K mg base CX0 1 C.p.f C.p.fd ["self"] (spLaP K C.C) := ok_laP C L.mli
  have Gal : FnOk P w K mg base CX0 1 C.a.f C.a.fd ["self"] (spLaA K C.C) := ok_laA C
  have Gb : FnOk P w K mg base CX0 5 L.mx.bw.b.f L.mx.bw.b.fd ["products"] (spBw K) := ok_bw L.mx.bw
  refine D.F.ok scRev (fun vs H Q E h => ?_) (fun cdv A outer s H vs Q E hr h => ?_)
  · obtain ⟨p, z, zs, rfl, _⟩ := h
    rfl
  · obtain ⟨p, z, zs, rfl, la, al, zl, ok, k⟩ := h
    have hr1 : Room 1 _ := hr.mono (by decide)
    have hr5 : Room 5 _ := hr.mono (by decide)
    refine ⟨_, (pss_cons (ps_setLc (i := 1) (own := [("product", 2)]) (g := gName 2) (tt := tYes) (te := RV.tRevQ K (tVar 2)) rfl scRev.nd rfl rfl (sw_true rfl rfl rfl (by decide +kernel)) (pi_list (pe_meth0 (pv 0) C.cl C.mtp Gp hr1 C.p.b .nil pass0)) (blkOk_by (N := ["language", "products", "product"]) (sc := defScope sReversal) (by decide +kernel)) (fun _ _ _ _ _ => pg_name (i := 2) scRev.nd rfl (Or.inl rfl)) (fun _ _ _ _ _ => pts_nil) (fun _ _ _ _ _ => RV.pe_revQ (pv 2))) (pss_one (ps_ret (pe_call Gl hr (by rfl) Dl.g Dl.F.kp Dl.b .nil pass0 (pa_cons (pe_meth0 (pv 0) C.cl C.mta Gal hr1 C.a.b .nil pass0) (pa_cons (pe_call Gb hr5 (by rfl) L.mx.bw.b.g L.mx.bw.b.F.kp L.mx.bw.b.b .nil pass0 (pa_cons (pv 1) pa_nil)) pa_nil)))))), ?_⟩
    obtain ⟨dx, q0, ys, g1, g2, g3⟩ := id la
    refine ⟨.ref p, rfl, p, dx, _, rfl, g1, flL_no _ _ (by decide) (by decide), p, z, zs, rfl, la, fun H1 l us s1 nl hl iL => ?_⟩
    have ul := iL.len
    refine ⟨l, rfl, ⟨_, SqL.of hl⟩, fun L0 hL => ?_⟩
    have nL0 : H L0 = none := s1.free hL
    refine lc_it (walk_list (xs := us)) (fun i H' => ∃ ws, H' L0 = some (.lst ws) ∧ IsL K H' ws ((zs.take i).map List.reverse) ∧ Same H1 H') ⟨[], upd_same, .nil, same_upd hL⟩ (fun _ _ _ ⟨_, _, _, sm⟩ => SqL.of (sm _ _ hl)) ?_ ?_
    · rintro i y G G' hi ⟨ws, gL, iR, sm⟩ ⟨rfl, hy⟩
      obtain ⟨q, hq, a, xs, rfl, ha, iF⟩ := iL.get i y hy
      refine ⟨rfl, yes ⟨_, rfl, a, xs, rfl, same_tup sm _ _ ha, fun b hb => ?_⟩⟩
      have sb := same_upd (o := .tup xs.reverse) hb
      have gL1 := sb _ _ gL
      have sm1 := sm.trans sb
      refine ⟨ws, gL1, ?_, ws ++ [.ref b], upd_same, ?_, fun c o e => (upd_ne (ne_of_none e hL)).trans (sm1 _ _ e)⟩
      · have := iR.len
        rw [List.length_map, List.length_take] at this
        rw [this, sizeLine_eq]
        omega
      · rw [List.take_add_one, hq, List.map_append]
        have e1 := iR.mono (same_tup sb)
        have e2 : IsP K (upd G' b (.tup xs.reverse)) (.ref b) q.reverse := ⟨b, _, rfl, SqT.of upd_same, (iF.mono (same_tup sm1)).rev⟩
        exact (e1.app (.cons e2 .nil)).mono fun c ws hw => upd_lst gL1 c ws hw
    · rintro G ⟨ws, gL, iR, sm⟩
      rw [ul, List.take_length] at iR
      have sG := s1.trans sm
      have la' := la.same sG
      refine ⟨.ref p, rfl, p, dx, _, rfl, sG _ _ g1, flL_no _ _ (by decide) (by decide), p, z, zs, rfl, la', ?_⟩
      refine ⟨.ref L0, rfl, L0, ws, _, rfl, SqL.of gL, iR, fun q hq => ?_, fun H2 b vs2 zs2 s2 nb hb iZ ez => ?_⟩
      · obtain ⟨q', hq', rfl⟩ := List.mem_map.mp hq
        exact ⟨fun f hf => (fok_low al ((ok q' hq').2 f (List.mem_reverse.mp hf))).2, by rw [List.length_reverse]; exact (ok q' hq').1⟩
      · refine ⟨b, z, vs2, zs2, rfl, SqL.of hb, iZ, al, fun H3 x s3 new => ?_⟩
        subst ez
        exact k H3 x (sG.trans (s2.trans s3)) (sG.free (s2.free (by obtain ⟨_, _, _, _, _, _, _, hx⟩ := new; exact hx))) new.at
end
end DW
/-! reversals told by their words -/
namespace DW
open PySem PySem.Spec PyProof.Rows L2 TL
set_option autoImplicit false
theorem Cl.rev {z : Str} {A : List (List Fc)} {n l : Nat} (a : Cl z A n l) : Cl z (revP A) n l := ⟨Can.rev a.can, by unfold revP; rw [(List.mergeSort_perm _ leP).length_eq, List.length_map]; exact a.few, fun r hr => by
  have hr := (List.mergeSort_perm _ leP).subset hr
  obtain ⟨r', hr', rfl⟩ := List.mem_map.mp hr
  rw [List.length_reverse]
  exact a.len r' hr'⟩
theorem ha_rev {A : List (List Fc)} (u : List Nat) : Ha (revP A) u ↔ Ha A u.reverse := (ex_perm (List.mergeSort_perm _ leP) u).trans (ex_rev u)
section
variable {K : PySem.W.Frag} {C : Addr} {H : Hp} {Q : VK} {E : XK} {z : Str} {x : Addr} {A : List (List Fc)} {n l : Nat}
theorem rev_go (al : Alph z) (lx : LaAt K C H x z A) (a : Cl z A n l) (hn : n ≤ 4000000) (hl : l ≤ 10000)
    (go : ∀ H' v ws, Same H H' → LaAt K C H' v z ws → Cl z ws n l → (∀ u, Ha ws u ↔ Ha A u.reverse) → Q (.ref v) H') : spRev K C [.ref x] H Q E :=
  ⟨x, z, A, rfl, lx, al, Nat.le_trans a.few hn, fun q hq => ⟨Nat.le_trans (a.len q hq) hl, a.ok q hq⟩, fun H' v s _ lv => go H' v _ s lv a.rev ha_rev⟩
end
end DW
/-! what expressions stand for: the text of an operand, an item, an alternative, a choice; its words;
how many products of how many factors the reader may get -/
namespace DW
open PySem PySem.Spec PyProof.Rows L2 TL
set_option autoImplicit false
/-- a text, the words of its closure, a bound on the products and one on their factors -/
abbrev LP := List Nat → (List Nat → Prop) → Nat → Nat → Prop
def WCat (V W : List Nat → Prop) (u : List Nat) : Prop := ∃ u1 u2, u = u1 ++ u2 ∧ V u1 ∧ W u2
def WStar (W : List Nat → Prop) (u : List Nat) : Prop := ∀ c ∈ u, W [c]
inductive OpP (z : Str) (P : LP) : LP where
  | letter {c : Nat} (hc : c ∈ tl z) : OpP z P [c] (fun u => u.Sublist [c]) 1 1
  | empty : OpP z P [40, 41] (fun u => u = []) 1 0
  | paren {s : List Nat} {W : List Nat → Prop} {n l : Nat} (h : P s W n l) : OpP z P (40 :: (s ++ [41])) W n l
/-- postfix operators, read from the left -/
inductive Posts : (List Nat → Prop) → Nat → Nat → LP where
  | nil {W : List Nat → Prop} {n l : Nat} : Posts W n l [] W n l
  | opt {W W' : List Nat → Prop} {n l n' l' : Nat} {ps : List Nat} (r : Posts W n l ps W' n' l') : Posts W n l (63 :: ps) W' n' l'
  | star {W W' : List Nat → Prop} {n l n' l' c : Nat} {ps : List Nat} (hc : c = 42 ∨ c = 43) (hb : l * n ≤ 1000) (r : Posts (WStar W) 1 1 ps W' n' l') : Posts W n l (c :: ps) W' n' l'
def ItP (O : LP) : LP := fun s W' n' l' => ∃ o ps W n l, O o W n l ∧ Posts W n l ps W' n' l' ∧ s = o ++ ps
/-- items, read from the left, behind what was read already -/
inductive Cats (I : LP) : (List Nat → Prop) → Nat → Nat → LP where
  | nil {W : List Nat → Prop} {n l : Nat} : Cats I W n l [] W n l
  | cons {W V W' : List Nat → Prop} {n l m k n' l' : Nat} {s t : List Nat} (h : I s V m k) (few : n * m ≤ 50) (r : Cats I (WCat W V) (n * m) (l + k) t W' n' l') : Cats I W n l (s ++ t) W' n' l'
def AlP (I : LP) : LP := fun s W' n' l' => ∃ s1 s2 W n l, I s1 W n l ∧ Cats I W n l s2 W' n' l' ∧ s = s1 ++ s2
/-- alternatives, each behind a stroke -/
inductive Alts (A : LP) : List Nat → List ((List Nat → Prop) × Nat × Nat) → Prop where
  | nil : Alts A [] []
  | cons {V : List Nat → Prop} {m k : Nat} {s t : List Nat} {Ls : List ((List Nat → Prop) × Nat × Nat)} (h : A s V m k) (r : Alts A t Ls) : Alts A (124 :: (s ++ t)) ((V, m, k) :: Ls)
def sumN3 : List ((List Nat → Prop) × Nat × Nat) → Nat
  | [] => 0
  | x :: Ls => x.2.1 + sumN3 Ls
def maxL3 : List ((List Nat → Prop) × Nat × Nat) → Nat
  | [] => 0
  | x :: Ls => max x.2.2 (maxL3 Ls)
def ChP (A : LP) : LP := fun s W n l => ∃ s1 s2 V m k Ls, A s1 V m k ∧ Alts A s2 Ls ∧ s = s1 ++ s2 ∧ n = m + sumN3 Ls ∧ n ≤ 50 ∧ l = max k (maxL3 Ls) ∧ ∀ u, W u ↔ V u ∨ ∃ x ∈ Ls, x.1 u
/-- choices with parentheses up to a depth -/
def ChD (z : Str) : Nat → LP
  | 0 => fun _ _ _ _ => False
  | d + 1 => ChP (AlP (ItP (OpP z (ChD z d))))
/-- signs that an item may begin with -/
def Beg (z : Str) (c : Nat) : Prop := c ∈ tl z ∨ c = 40
theorem OpP.beg {z : Str} {P : LP} {s : List Nat} {W : List Nat → Prop} {n l : Nat} (h : OpP z P s W n l) : ∃ c r, s = c :: r ∧ Beg z c := by
  cases h with
  | letter hc => exact ⟨_, _, rfl, .inl hc⟩
  | empty => exact ⟨_, _, rfl, .inr rfl⟩
  | paren h => exact ⟨_, _, rfl, .inr rfl⟩
theorem ItP.beg {z : Str} {P : LP} {s : List Nat} {W : List Nat → Prop} {n l : Nat} (h : ItP (OpP z P) s W n l) : ∃ c r, s = c :: r ∧ Beg z c := by
  obtain ⟨o, ps, _, _, _, ho, _, rfl⟩ := h
  obtain ⟨c, r, rfl, hc⟩ := ho.beg
  exact ⟨c, r ++ ps, rfl, hc⟩
theorem AlP.beg {z : Str} {P : LP} {s : List Nat} {W : List Nat → Prop} {n l : Nat} (h : AlP (ItP (OpP z P)) s W n l) : ∃ c r, s = c :: r ∧ Beg z c := by
  obtain ⟨s1, s2, _, _, _, h1, _, rfl⟩ := h
  obtain ⟨c, r, rfl, hc⟩ := h1.beg
  exact ⟨c, r ++ s2, rfl, hc⟩
theorem ChP.beg {z : Str} {P : LP} {s : List Nat} {W : List Nat → Prop} {n l : Nat} (h : ChP (AlP (ItP (OpP z P))) s W n l) : ∃ c r, s = c :: r ∧ Beg z c := by
  obtain ⟨s1, s2, _, _, _, _, h1, _, rfl, _⟩ := h
  obtain ⟨c, r, rfl, hc⟩ := h1.beg
  exact ⟨c, r ++ s2, rfl, hc⟩
theorem ChD.beg {z : Str} {s : List Nat} {W : List Nat → Prop} {n l : Nat} : ∀ {d : Nat}, ChD z d s W n l → ∃ c r, s = c :: r ∧ Beg z c
  | 0, h => h.elim
  | _ + 1, h => ChP.beg h
theorem Beg.low {z : Str} (al : Alph z) {c : Nat} (h : Beg z c) : c ≠ 41 ∧ c ≠ 124 ∧ c ≠ 42 ∧ c ≠ 43 ∧ c ≠ 63 := by
  rcases h with h | h
  · have := al.2.2.2 c h
    omega
  · omega
/-! what the bounds are -/
theorem OpP.one {z : Str} {P : LP} (hP : ∀ s W n l, P s W n l → 1 ≤ n ∧ n ≤ 50) {s : List Nat} {W : List Nat → Prop} {n l : Nat} (h : OpP z P s W n l) : 1 ≤ n ∧ n ≤ 50 := by
  cases h with
  | letter => exact ⟨Nat.le_refl 1, by decide⟩
  | empty => exact ⟨Nat.le_refl 1, by decide⟩
  | paren h => exact hP _ _ _ _ h
theorem Posts.one {W W' : List Nat → Prop} {n l n' l' : Nat} {ps : List Nat} (h : Posts W n l ps W' n' l') : 1 ≤ n ∧ n ≤ 50 → 1 ≤ n' ∧ n' ≤ 50 := by
  induction h with
  | nil => exact id
  | opt _ ih => exact ih
  | star _ _ _ ih => exact fun _ => ih ⟨Nat.le_refl 1, by decide⟩
theorem Cats.one {I : LP} (hI : ∀ s W n l, I s W n l → 1 ≤ n ∧ n ≤ 50) {W W' : List Nat → Prop} {n l n' l' : Nat} {s : List Nat} (h : Cats I W n l s W' n' l') : 1 ≤ n ∧ n ≤ 50 → 1 ≤ n' ∧ n' ≤ 50 := by
  induction h with
  | nil => exact id
  | cons h few _ ih => exact fun hn => ih ⟨Nat.mul_pos hn.1 (hI _ _ _ _ h).1, few⟩
theorem ItP.one {O : LP} (hO : ∀ s W n l, O s W n l → 1 ≤ n ∧ n ≤ 50) {s : List Nat} {W : List Nat → Prop} {n l : Nat} (h : ItP O s W n l) : 1 ≤ n ∧ n ≤ 50 := by
  obtain ⟨_, _, _, _, _, ho, hp, rfl⟩ := h
  exact hp.one (hO _ _ _ _ ho)
theorem AlP.one {I : LP} (hI : ∀ s W n l, I s W n l → 1 ≤ n ∧ n ≤ 50) {s : List Nat} {W : List Nat → Prop} {n l : Nat} (h : AlP I s W n l) : 1 ≤ n ∧ n ≤ 50 := by
  obtain ⟨_, _, _, _, _, h1, h2, rfl⟩ := h
  exact h2.one hI (hI _ _ _ _ h1)
theorem ChD.one {z : Str} : ∀ {d : Nat} {s : List Nat} {W : List Nat → Prop} {n l : Nat}, ChD z d s W n l → 1 ≤ n ∧ n ≤ 50
  | 0, _, _, _, _, h => h.elim
  | d + 1, _, _, _, _, h => by
    obtain ⟨_, _, _, m, _, Ls, h1, _, _, e, n50, _⟩ := h
    have := AlP.one (fun s W n l h => ItP.one (fun s W n l h => OpP.one (fun s W n l h => ChD.one (d := d) h) h) h) h1
    exact ⟨by omega, n50⟩
/-! no more factors than signs -/
theorem OpP.len {z : Str} {P : LP} (hP : ∀ s W n l, P s W n l → l ≤ s.length) {s : List Nat} {W : List Nat → Prop} {n l : Nat} (h : OpP z P s W n l) : l ≤ s.length ∧ 1 ≤ s.length := by
  cases h with
  | letter => exact ⟨Nat.le_refl 1, Nat.le_refl 1⟩
  | empty => exact ⟨by decide, by show 1 ≤ 2; decide⟩
  | paren h =>
    have := hP _ _ _ _ h
    rw [List.length_cons, List.length_append]
    omega
theorem Posts.len {W W' : List Nat → Prop} {n l n' l' : Nat} {ps : List Nat} (h : Posts W n l ps W' n' l') : l' ≤ max l 1 := by
  induction h with
  | nil => omega
  | opt _ ih => exact ih
  | star _ _ _ ih => omega
theorem ItP.len {O : LP} (hO : ∀ s W n l, O s W n l → l ≤ s.length ∧ 1 ≤ s.length) {s : List Nat} {W : List Nat → Prop} {n l : Nat} (h : ItP O s W n l) : l ≤ s.length ∧ 1 ≤ s.length := by
  obtain ⟨_, _, _, _, _, ho, hp, rfl⟩ := h
  have h1 := hO _ _ _ _ ho
  have h2 := hp.len
  rw [List.length_append]
  omega
theorem Cats.len {I : LP} (hI : ∀ s W n l, I s W n l → l ≤ s.length ∧ 1 ≤ s.length) {W W' : List Nat → Prop} {n l n' l' : Nat} {s : List Nat} (h : Cats I W n l s W' n' l') : l' ≤ l + s.length := by
  induction h with
  | nil => omega
  | cons h _ _ ih =>
    have := (hI _ _ _ _ h).1
    rw [List.length_append]
    omega
theorem AlP.len {I : LP} (hI : ∀ s W n l, I s W n l → l ≤ s.length ∧ 1 ≤ s.length) {s : List Nat} {W : List Nat → Prop} {n l : Nat} (h : AlP I s W n l) : l ≤ s.length ∧ 1 ≤ s.length := by
  obtain ⟨_, _, _, _, _, h1, h2, rfl⟩ := h
  have g1 := hI _ _ _ _ h1
  have g2 := h2.len hI
  rw [List.length_append]
  omega
theorem Alts.len {A : LP} (hA : ∀ s W n l, A s W n l → l ≤ s.length ∧ 1 ≤ s.length) {s : List Nat} {Ls : List ((List Nat → Prop) × Nat × Nat)} (h : Alts A s Ls) : maxL3 Ls ≤ s.length := by
  induction h with
  | nil => exact Nat.le_refl 0
  | @cons V m k s t Ls h _ ih =>
    have := (hA _ _ _ _ h).1
    show max k (maxL3 Ls) ≤ _
    rw [List.length_cons, List.length_append]
    omega
theorem ChD.len {z : Str} : ∀ {d : Nat} {s : List Nat} {W : List Nat → Prop} {n l : Nat}, ChD z d s W n l → l ≤ s.length
  | 0, _, _, _, _, h => h.elim
  | d + 1, _, _, _, _, h => by
    obtain ⟨_, _, _, m, _, Ls, h1, h2, rfl, _, _, e, _⟩ := h
    have hI : ∀ s W n l, ItP (OpP z (ChD z d)) s W n l → l ≤ s.length ∧ 1 ≤ s.length := fun s W n l h => ItP.len (fun s W n l h => OpP.len (fun s W n l h => ChD.len (d := d) h) h) h
    have g1 := (AlP.len hI h1).1
    have g2 := h2.len fun s W n l h => AlP.len hI h
    rw [List.length_append]
    omega
end DW
/-! the trees of the laws of expressions, their texts and words -/
namespace DW
open PySem PySem.Spec PyProof.Rows L2 TL
set_option autoImplicit false
inductive Tr where
  | leaf (s : List Nat)
  | post (c : Nat) (t : Tr)
  | bin (ch : Bool) (l r : Tr)
def Tr.wt : Tr → Nat
  | .leaf _ => 1
  | .post _ t => t.wt + 1
  | .bin _ l r => l.wt + r.wt
def Tr.lev : Tr → Nat
  | .leaf _ => 2
  | .post _ _ => 2
  | .bin ch _ _ => if ch then 0 else 1
def Tr.Ok (z : Str) (sg : List Nat) : Tr → Prop
  | .leaf s => s = [40, 41] ∨ ∃ c ∈ tl z, s = [c]
  | .post c t => c ∈ sg ∧ t.Ok z sg
  | .bin _ l r => l.Ok z sg ∧ r.Ok z sg
def Wrp (lv : Nat) (B : List Nat → Prop) (p : Nat) (s : List Nat) : Prop := (B s ∧ p ≤ lv) ∨ ∃ s', B s' ∧ s = 40 :: (s' ++ [41])
def Bare : Tr → List Nat → Prop
  | .leaf s, x => x = s
  | .post c t, x => ∃ s, Wrp t.lev (Bare t) 2 s ∧ x = s ++ [c]
  | .bin ch l r, x => ∃ a b, Wrp l.lev (Bare l) (if ch then 0 else 1) a ∧ Wrp r.lev (Bare r) (if ch then 0 else 1) b ∧ x = a ++ (if ch then 124 :: b else b)
def Tr.W : Tr → List Nat → Prop
  | .leaf s => fun u => if s = [40, 41] then u = [] else u.Sublist s
  | .post c t => if c = 63 then t.W else WStar t.W
  | .bin true l r => fun u => l.W u ∨ r.W u
  | .bin false l r => WCat l.W r.W
def Tr.n : Tr → Nat
  | .leaf _ => 1
  | .post c t => if c = 63 then t.n else 1
  | .bin true l r => l.n + r.n
  | .bin false l r => l.n * r.n
def Tr.l : Tr → Nat
  | .leaf s => if s = [40, 41] then 0 else 1
  | .post c t => if c = 63 then t.l else 1
  | .bin true l r => max l.l r.l
  | .bin false l r => l.l + r.l
theorem Tr.wt1 : ∀ t : Tr, 1 ≤ t.wt
  | .leaf _ => Nat.le_refl 1
  | .post _ t => Nat.le_add_left 1 _
  | .bin _ l r => by
    have := l.wt1
    show 1 ≤ l.wt + r.wt
    omega
theorem Tr.l_le : ∀ t : Tr, t.l ≤ t.wt
  | .leaf s => by
    show (if s = [40, 41] then 0 else 1) ≤ 1
    split <;> omega
  | .post c t => by
    have := t.l_le
    have := t.wt1
    show (if c = 63 then t.l else 1) ≤ t.wt + 1
    split <;> omega
  | .bin true l r => by
    have := l.l_le
    have := r.l_le
    show max l.l r.l ≤ l.wt + r.wt
    omega
  | .bin false l r => by
    have := l.l_le
    have := r.l_le
    show l.l + r.l ≤ l.wt + r.wt
    omega
def ftab (k : Nat) : Nat := [0, 1, 2, 3, 4, 6, 9, 12, 18].getD k 0
theorem ftab_ok : ∀ a : Fin 9, ∀ b : Fin 9, 1 ≤ a.val → 1 ≤ b.val → a.val + b.val ≤ 8 → ftab a.val * ftab b.val ≤ ftab (a.val + b.val) ∧ ftab a.val + ftab b.val ≤ ftab (a.val + b.val) := by decide +kernel
theorem ftab_up : ∀ a : Fin 8, ftab a.val ≤ ftab (a.val + 1) := by decide +kernel
theorem ftab_18 : ∀ a : Fin 9, ftab a.val ≤ 18 := by decide +kernel
theorem ftab_1 : ∀ a : Fin 9, 1 ≤ a.val → 1 ≤ ftab a.val := by decide +kernel
theorem Tr.n_le : ∀ t : Tr, t.wt ≤ 8 → 1 ≤ t.n ∧ t.n ≤ ftab t.wt
  | .leaf _, _ => ⟨Nat.le_refl 1, by show 1 ≤ ftab 1; decide⟩
  | .post c t, h => by
    have h : t.wt + 1 ≤ 8 := h
    obtain ⟨a, b⟩ := t.n_le (by omega)
    have u := ftab_up ⟨t.wt, by omega⟩
    have v := ftab_1 ⟨t.wt + 1, by omega⟩ (by show 1 ≤ t.wt + 1; omega)
    show 1 ≤ (if c = 63 then t.n else 1) ∧ (if c = 63 then t.n else 1) ≤ ftab (t.wt + 1)
    dsimp only at u v
    split <;> omega
  | .bin ch l r, h => by
    have h : l.wt + r.wt ≤ 8 := h
    have l1 := l.wt1
    have r1 := r.wt1
    obtain ⟨a, b⟩ := l.n_le (by omega)
    obtain ⟨a', b'⟩ := r.n_le (by omega)
    obtain ⟨p, q⟩ := ftab_ok ⟨l.wt, by omega⟩ ⟨r.wt, by omega⟩ l1 r1 h
    cases ch with
    | true => exact ⟨by show 1 ≤ l.n + r.n; omega, Nat.le_trans (Nat.add_le_add b b') q⟩
    | false => exact ⟨Nat.mul_pos a a', Nat.le_trans (Nat.mul_le_mul b b') p⟩
theorem Tr.n18 (t : Tr) (h : t.wt ≤ 8) : 1 ≤ t.n ∧ t.n ≤ 18 := ⟨(t.n_le h).1, Nat.le_trans (t.n_le h).2 (ftab_18 ⟨t.wt, by omega⟩)⟩
theorem Wrp.len {lv p n : Nat} {B : List Nat → Prop} (hB : ∀ s, B s → s.length + 5 ≤ n) {s : List Nat} (h : Wrp lv B p s) : s.length + 3 ≤ n := by
  rcases h with ⟨h, _⟩ | ⟨s', h, rfl⟩
  · have := hB s h; omega
  · have := hB s' h
    rw [List.length_cons, List.length_append]
    show _ + 1 + 1 + 3 ≤ n
    omega
theorem Bare.len {z : Str} {sg : List Nat} : ∀ {t : Tr} {s : List Nat}, t.Ok z sg → Bare t s → s.length + 5 ≤ 8 * t.wt
  | .leaf s, x, o, h => by
    have h : x = s := h
    subst h
    rcases o with e | ⟨c, _, e⟩
    · rw [e]; show 7 ≤ 8; decide
    · rw [e]; show 6 ≤ 8; decide
  | .post c t, x, o, h => by
    obtain ⟨s, hs, rfl⟩ := h
    have := hs.len fun s h => Bare.len o.2 h
    rw [List.length_append]
    show _ + 1 + 5 ≤ 8 * (t.wt + 1)
    omega
  | .bin ch l r, x, o, h => by
    obtain ⟨a, b, ha, hb, rfl⟩ := h
    have h1 := ha.len fun s h => Bare.len o.1 h
    have h2 := hb.len fun s h => Bare.len o.2 h
    rw [List.length_append]
    show _ + _ + 5 ≤ 8 * (l.wt + r.wt)
    cases ch with
    | true =>
      show _ + (b.length + 1) + 5 ≤ _
      omega
    | false =>
      show _ + b.length + 5 ≤ _
      omega
/-! the text of a tree is an expression with the words of the tree -/
theorem Posts.optS {W W' : List Nat → Prop} {n l n' l' : Nat} {ps : List Nat} (h : Posts W n l ps W' n' l') : Posts W n l (ps ++ [63]) W' n' l' := by
  induction h with
  | nil => exact .opt .nil
  | opt _ ih => exact .opt ih
  | star hc hb _ ih => exact .star hc hb ih
theorem Posts.starS {W W' : List Nat → Prop} {n l n' l' : Nat} {ps : List Nat} {c : Nat} (h : Posts W n l ps W' n' l') (hc : c = 42 ∨ c = 43) (hb : l' * n' ≤ 1000) : Posts W n l (ps ++ [c]) (WStar W') 1 1 := by
  induction h with
  | nil => exact .star hc hb .nil
  | opt _ ih => exact .opt (ih hb)
  | star hc' hb' _ ih => exact .star hc' hb' (ih hb)
theorem Cats.app {I : LP} {W V W' : List Nat → Prop} {n l m k n' l' : Nat} {s t : List Nat} (h : Cats I W n l s V m k) (r : Cats I V m k t W' n' l') : Cats I W n l (s ++ t) W' n' l' := by
  induction h with
  | nil => exact r
  | cons h few _ ih =>
    rw [List.append_assoc]
    exact .cons h few (ih r)
theorem WCat_assoc (A B C : List Nat → Prop) : WCat (WCat A B) C = WCat A (WCat B C) := by
  funext u
  apply propext
  constructor
  · rintro ⟨_, u3, rfl, ⟨u1, u2, rfl, h1, h2⟩, h3⟩
    exact ⟨u1, u2 ++ u3, List.append_assoc _ _ _, h1, u2, u3, rfl, h2, h3⟩
  · rintro ⟨u1, _, rfl, h1, u2, u3, rfl, h2, h3⟩
    exact ⟨u1 ++ u2, u3, (List.append_assoc _ _ _).symm, ⟨u1, u2, rfl, h1, h2⟩, h3⟩
theorem Cats.up {I : LP} (hI : ∀ s W n l, I s W n l → 1 ≤ n) {W W' : List Nat → Prop} {n l n' l' : Nat} {s : List Nat} (h : Cats I W n l s W' n' l') : n ≤ n' := by
  induction h with
  | nil => exact Nat.le_refl _
  | cons h _ _ ih => exact Nat.le_trans (Nat.le_mul_of_pos_right _ (hI _ _ _ _ h)) ih
theorem Cats.pre {I : LP} (hI : ∀ s W n l, I s W n l → 1 ≤ n) {V W' W0 : List Nat → Prop} {m k n' l' n0 l0 : Nat} {s : List Nat} (h : Cats I V m k s W' n' l') : n0 * n' ≤ 50 → Cats I (WCat W0 V) (n0 * m) (l0 + k) s (WCat W0 W') (n0 * n') (l0 + l') := by
  induction h with
  | nil => exact fun _ => .nil
  | @cons W V W' n l m k n' l' s t h few r ih =>
    intro b
    have up := r.up hI
    have q := ih b
    rw [← WCat_assoc, ← Nat.mul_assoc, ← Nat.add_assoc] at q
    refine .cons h ?_ q
    rw [Nat.mul_assoc]
    exact Nat.le_trans (Nat.mul_le_mul_left _ up) b
theorem Alts.app {A : LP} {s t : List Nat} {Ls Ms : List ((List Nat → Prop) × Nat × Nat)} (h : Alts A s Ls) (r : Alts A t Ms) : Alts A (s ++ t) (Ls ++ Ms) := by
  induction h with
  | nil => exact r
  | cons h _ ih =>
    rw [List.cons_append, List.cons_append, List.append_assoc]
    exact .cons h ih
theorem sumN3_app : ∀ (a b : List ((List Nat → Prop) × Nat × Nat)), sumN3 (a ++ b) = sumN3 a + sumN3 b
  | [], b => (Nat.zero_add _).symm
  | x :: a, b => by
    show x.2.1 + sumN3 (a ++ b) = x.2.1 + sumN3 a + sumN3 b
    rw [sumN3_app a b, Nat.add_assoc]
theorem maxL3_app : ∀ (a b : List ((List Nat → Prop) × Nat × Nat)), maxL3 (a ++ b) = max (maxL3 a) (maxL3 b)
  | [], b => (Nat.zero_max _).symm
  | x :: a, b => by
    show max x.2.2 (maxL3 (a ++ b)) = max (max x.2.2 (maxL3 a)) (maxL3 b)
    rw [maxL3_app a b, Nat.max_assoc]
abbrev ItD (z : Str) (d : Nat) : LP := ItP (OpP z (ChD z d))
theorem ItD.one {z : Str} {d : Nat} : ∀ s W n l, ItD z d s W n l → 1 ≤ n := fun _ _ _ _ h => (ItP.one (fun _ _ _ _ h => OpP.one (fun _ _ _ _ h => ChD.one h) h) h).1
/-- a text where a choice, an alternative, an item may stand -/
def Lv (z : Str) (d : Nat) : Nat → LP
  | 0 => ChD z (d + 1)
  | 1 => AlP (ItD z d)
  | _ => ItD z d
theorem Lv.alt {z : Str} {d : Nat} {s : List Nat} {W : List Nat → Prop} {n l : Nat} (h : ItD z d s W n l) : AlP (ItD z d) s W n l := ⟨s, [], W, n, l, h, .nil, (List.append_nil s).symm⟩
theorem Lv.cho {z : Str} {d : Nat} {s : List Nat} {W : List Nat → Prop} {n l : Nat} (b : n ≤ 50) (h : AlP (ItD z d) s W n l) : ChD z (d + 1) s W n l := ⟨s, [], W, n, l, [], h, .nil, (List.append_nil s).symm, rfl, b, (Nat.max_zero _).symm, fun u => ⟨.inl, fun h => h.elim id fun ⟨_, h, _⟩ => nomatch h⟩⟩
theorem Lv.down {z : Str} {d : Nat} : ∀ {lv p : Nat} {s : List Nat} {W : List Nat → Prop} {n l : Nat}, n ≤ 50 → p ≤ lv → Lv z d lv s W n l → Lv z d p s W n l
  | 0, 0, _, _, _, _, _, _, h => h
  | 1, 1, _, _, _, _, _, _, h => h
  | 1, 0, _, _, _, _, b, _, h => Lv.cho b h
  | lv + 2, 0, _, _, _, _, b, _, h => Lv.cho b (Lv.alt h)
  | lv + 2, 1, _, _, _, _, b, _, h => Lv.alt h
  | lv + 2, p + 2, _, _, _, _, b, _, h => h
  | 0, p + 1, _, _, _, _, _, e, h => absurd e (by omega)
  | 1, p + 2, _, _, _, _, _, e, h => absurd e (by omega)
theorem Wrp.lv {z : Str} {d lv p : Nat} {B : List Nat → Prop} {W : List Nat → Prop} {n l : Nat} (b : n ≤ 50) (h0 : ∀ s, B s → Lv z d lv s W n l) (h1 : ∀ s, B s → ChD z d s W n l) {s : List Nat} (h : Wrp lv B p s) : Lv z d p s W n l := by
  rcases h with ⟨h, e⟩ | ⟨s', h, rfl⟩
  · exact Lv.down b e (h0 s h)
  · have q : ItD z d (40 :: (s' ++ [41])) W n l := ⟨_, [], W, n, l, .paren (h1 s' h), .nil, (List.append_nil _).symm⟩
    match p with
    | 0 => exact Lv.cho b (Lv.alt q)
    | 1 => exact Lv.alt q
    | p + 2 => exact q
theorem Bare.lv {z : Str} (sg : List Nat) (hs : ∀ c ∈ sg, c = 63 ∨ c = 42 ∨ c = 43) : ∀ (t : Tr) (s : List Nat), t.Ok z sg → Bare t s → t.wt ≤ 8 → ∀ d, t.wt ≤ d + 1 → Lv z d t.lev s t.W t.n t.l
  | .leaf s, x, o, h, _, d, _ => by
    have h : x = s := h
    subst h
    show ItD z d x (fun u => if x = [40, 41] then u = [] else u.Sublist x) 1 (if x = [40, 41] then 0 else 1)
    by_cases e : x = [40, 41]
    · have q : OpP z (ChD z d) x (fun u => if x = [40, 41] then u = [] else u.Sublist x) 1 (if x = [40, 41] then 0 else 1) := by
        simp only [if_pos e]
        rw [e]
        exact .empty
      exact ⟨x, [], _, _, _, q, .nil, (List.append_nil x).symm⟩
    · have q : OpP z (ChD z d) x (fun u => if x = [40, 41] then u = [] else u.Sublist x) 1 (if x = [40, 41] then 0 else 1) := by
        simp only [if_neg e]
        rcases o with e' | ⟨c, hc, e'⟩
        · exact absurd e' e
        · rw [e']
          exact .letter hc
      exact ⟨x, [], _, _, _, q, .nil, (List.append_nil x).symm⟩
  | .post c t, x, o, h, w, d, e => by
    obtain ⟨s, hw, rfl⟩ := h
    have w : t.wt + 1 ≤ 8 := w
    have e : t.wt + 1 ≤ d + 1 := e
    have n18 := t.n18 (by omega)
    have lle := t.l_le
    have t1 := t.wt1
    have it : ItD z d s t.W t.n t.l := by
      obtain ⟨d, rfl⟩ : ∃ d', d = d' + 1 := ⟨d - 1, by omega⟩
      exact hw.lv (p := 2) (by omega) (fun s h => Bare.lv sg hs t s o.2 h (by omega) (d + 1) (by omega)) (fun s h => Lv.down (p := 0) (by omega) (Nat.zero_le _) (Bare.lv sg hs t s o.2 h (by omega) d (by omega)))
    obtain ⟨a, ps, W, n, l, ha, hp, rfl⟩ := it
    show ItD z d _ (if c = 63 then t.W else WStar t.W) (if c = 63 then t.n else 1) (if c = 63 then t.l else 1)
    rcases hs c o.1 with q | q
    · subst q
      exact ⟨a, ps ++ [63], W, n, l, ha, hp.optS, List.append_assoc _ _ _⟩
    · have ne : ¬ c = 63 := by omega
      rw [if_neg ne, if_neg ne, if_neg ne]
      refine ⟨a, ps ++ [c], W, n, l, ha, hp.starS q ?_, List.append_assoc _ _ _⟩
      have : t.l * t.n ≤ 8 * 18 := Nat.mul_le_mul (by omega) n18.2
      omega
  | .bin ch l r, x, o, h, w, d, e => by
    obtain ⟨a, b, ha, hb, rfl⟩ := h
    have w : l.wt + r.wt ≤ 8 := w
    have e : l.wt + r.wt ≤ d + 1 := e
    have nl := l.n18 (by omega)
    have nr := r.n18 (by omega)
    have nb := (Tr.bin ch l r).n18 w
    have l1 := l.wt1
    have r1 := r.wt1
    obtain ⟨d, rfl⟩ : ∃ d', d = d' + 1 := ⟨d - 1, by omega⟩
    have ga := ha.lv (z := z) (d := d + 1) (W := l.W) (n := l.n) (l := l.l) (by omega) (fun s h => Bare.lv sg hs l s o.1 h (by omega) (d + 1) (by omega)) (fun s h => Lv.down (p := 0) (by omega) (Nat.zero_le _) (Bare.lv sg hs l s o.1 h (by omega) d (by omega)))
    have gb := hb.lv (z := z) (d := d + 1) (W := r.W) (n := r.n) (l := r.l) (by omega) (fun s h => Bare.lv sg hs r s o.2 h (by omega) (d + 1) (by omega)) (fun s h => Lv.down (p := 0) (by omega) (Nat.zero_le _) (Bare.lv sg hs r s o.2 h (by omega) d (by omega)))
    cases ch with
    | true =>
      have ga : ChD z (d + 1 + 1) a l.W l.n l.l := ga
      have gb : ChD z (d + 1 + 1) b r.W r.n r.l := gb
      obtain ⟨s1, s2, V, m, k, Ls, h1, h2, rfl, en, _, el, hW⟩ := ga
      obtain ⟨s1', s2', V', m', k', Ls', h1', h2', rfl, en', _, el', hW'⟩ := gb
      refine ⟨s1, s2 ++ (124 :: (s1' ++ s2')), V, m, k, Ls ++ (V', m', k') :: Ls', h1, h2.app (.cons h1' h2'), by show s1 ++ s2 ++ (124 :: (s1' ++ s2')) = _; rw [List.append_assoc], ?_, ?_, ?_, fun u => ?_⟩
      · rw [sumN3_app]
        show l.n + r.n = m + (sumN3 Ls + (m' + sumN3 Ls'))
        omega
      · exact Nat.le_trans nb.2 (by decide)
      · rw [maxL3_app]
        show max l.l r.l = max k (max (maxL3 Ls) (max k' (maxL3 Ls')))
        omega
      · show l.W u ∨ r.W u ↔ _
        rw [hW u, hW' u]
        constructor
        · rintro ((h | ⟨x, hx, h⟩) | (h | ⟨x, hx, h⟩))
          · exact .inl h
          · exact .inr ⟨x, List.mem_append_left _ hx, h⟩
          · exact .inr ⟨(V', m', k'), List.mem_append_right _ List.mem_cons_self, h⟩
          · exact .inr ⟨x, List.mem_append_right _ (List.mem_cons_of_mem _ hx), h⟩
        · rintro (h | ⟨x, hx, h⟩)
          · exact .inl (.inl h)
          · rcases List.mem_append.mp hx with hx | hx
            · exact .inl (.inr ⟨x, hx, h⟩)
            · rcases List.mem_cons.mp hx with e | hx
              · rw [e] at h
                exact .inr (.inl h)
              · exact .inr (.inr ⟨x, hx, h⟩)
    | false =>
      have ga : AlP (ItD z (d + 1)) a l.W l.n l.l := ga
      have gb : AlP (ItD z (d + 1)) b r.W r.n r.l := gb
      have nb : 1 ≤ l.n * r.n ∧ l.n * r.n ≤ 18 := nb
      obtain ⟨s1, s2, V, m, k, h1, h2, rfl⟩ := ga
      obtain ⟨s1', s2', V', m', k', h1', h2', rfl⟩ := gb
      have up := h2'.up ItD.one
      refine ⟨s1, s2 ++ (s1' ++ s2'), V, m, k, h1, h2.app (.cons h1' (Nat.le_trans (Nat.mul_le_mul_left _ up) (by omega)) (h2'.pre ItD.one (by omega))), by show s1 ++ s2 ++ (s1' ++ s2') = _; rw [List.append_assoc]⟩
theorem Wrp.top {z : Str} (sg : List Nat) (hs : ∀ c ∈ sg, c = 63 ∨ c = 42 ∨ c = 43) {t : Tr} {s : List Nat} (o : t.Ok z sg) (h : Wrp t.lev (Bare t) 0 s) (w : t.wt ≤ 8) : ChD z 9 s t.W t.n t.l := by
  have n18 := t.n18 w
  exact h.lv (p := 0) (d := 8) (by omega) (fun s h => Bare.lv sg hs t s o h w 8 (by omega)) (fun s h => Lv.down (p := 0) (by omega) (Nat.zero_le _) (Bare.lv sg hs t s o h w 7 (by omega)))
end DW
/-! != of Languages -/
namespace DW
open PySem PySem.Spec PyProof.Rows L2 TL
set_option autoImplicit false
theorem ne_lang1 {K : PySem.W.Frag} {mg : Str → Option Value} {H : Hp} {x y : Addr} {z : Str} {A B : List (List Fc)} {Q : VK} {E : XK} (C : DfC3 K mg) (lx : LaAt K C.C H x z A) (ly : LaAt K C.C H y z B) (al : Alph z) (oA : ∀ q ∈ A, ∀ f ∈ q, FOk z f) (oB : ∀ q ∈ B, ∀ f ∈ q, FOk z f) {b : Bool} (hb : b = true ↔ A = B)
    (k : Q (.bl (!b)) H) : OQ.rONe K C.C (spLaQ K C.C) E (.ref x) (.ref y) H Q := by
  obtain ⟨d, q, v, e, h2, h3⟩ := id lx
  have e' : (decide (z = z) && decide (A = B)) = b := by
    rw [decide_eq_true (rfl : z = z), Bool.true_and, Bool.eq_iff_iff, hb, decide_eq_true_iff]
  exact ⟨x, d, _, _, rfl, e, ly.ty C, nf_self, x, .ref y, z, A, rfl, lx, al, oA, .inl ⟨y, z, B, rfl, ly, al, oB, _, rfl, by rw [e']; exact k⟩⟩
end DW
/-! _law_tree -/
namespace DW
open PySem PySem.Spec PyProof.Rows L2 TL
set_option autoImplicit false
def binN (ch : Bool) : Str := if ch then "choice" else "join"
inductive IsTr (K : PySem.W.Frag) (H : Hp) : V → Tr → Prop where
  | leaf {b : Addr} {x : Str} {s : List Nat} (h : SqT K H b [.str "leaf", .str x]) (e : tl x = s) : IsTr K H (.ref b) (.leaf s)
  | post {b : Addr} {c : Nat} {v : V} {t : Tr} (h : SqT K H b [.str "post", .str (one c), v]) (r : IsTr K H v t) : IsTr K H (.ref b) (.post c t)
  | bin {b : Addr} {v v' : V} {l r : Tr} (ch : Bool) (h : SqT K H b [.str (binN ch), v, v']) (i : IsTr K H v l) (j : IsTr K H v' r) : IsTr K H (.ref b) (.bin ch l r)
theorem IsTr.mono {K : PySem.W.Frag} {H H' : Hp} {v : V} {t : Tr} (h : IsTr K H v t) (k : ∀ b xs, SqT K H b xs → SqT K H' b xs) : IsTr K H' v t := by
  induction h with
  | leaf h e => exact .leaf (k _ _ h) e
  | post h _ ih => exact .post (k _ _ h) ih
  | bin ch h _ _ i j => exact .bin ch (k _ _ h) i j
def spTree (n : Nat) (K : PySem.W.Frag) : Sp := fun vs H Q _ => ∃ (t c : Addr) (m : Nat) (z sg : Str) (lv : Int), vs = [.ref t, .str z, .str sg, .int lv] ∧ Tape H t c m ∧ m + 10 * lv.toNat < 2 ^ 40 ∧ Alph z ∧ sg.length ≠ 0 ∧ sg.length ≤ 10 ∧ 1 ≤ lv ∧ lv.toNat ≤ n ∧ lv ≤ 100 ∧
  ∀ H' v (tr : Tr), Kp t H H' → Tape H' t c (m + (10 * lv.toNat - 5)) → IsTr K H' v tr → tr.Ok z (tl sg) → tr.wt ≤ lv.toNat → Q v H'
section
variable {P : Program} {w : World} {K : PySem.W.Frag} {mg : Str → Option Value} {base : Heap}
theorem scTree : FnScope ["_law_tape", "_law_alphabet_here", "_law_signs", "_law_leaves", "_law_way", "_law_first", "_law_left"] ["_law_tape", "_law_alphabet_here", "_law_signs", "_law_leaves"] (defScope sLTree) := ⟨rfl, rfl, rfl, by decide +kernel, rfl, by decide +kernel, by decide +kernel⟩
theorem ok_tree (D : Df K mg "_law_tree" sLTree ["_law_tape", "_law_alphabet_here", "_law_signs", "_law_leaves"]) (Dd : DfDraw K mg) (Dp : DfPick K mg) (ml : mg "len" = none) : ∀ n, n ≤ 100 → FnOk P w K mg base CX0 (n + 2) D.f D.fd ["_law_tape", "_law_alphabet_here", "_law_signs", "_law_leaves"] (spTree n K)
  | 0, _ => ⟨fun vs H Q E ⟨_, _, _, _, _, lv, _, _, _, _, _, _, h1, h2, _⟩ => absurd h2 (by omega), fun A outer s H args us vs Q E _ _ _ _ ⟨_, _, _, _, _, lv, _, _, _, _, _, _, h1, h2, _⟩ => absurd h2 (by omega)⟩
  | n + 1, hn => by
    have Gm : FnOk P w K mg base CX0 (n + 2) D.f D.fd ["_law_tape", "_law_alphabet_here", "_law_signs", "_law_leaves"] (spTree n K) := ok_tree D Dd Dp ml n (by omega)
    have Gd : FnOk P w K mg base CX0 1 Dd.f Dd.fd ["_law_tape", "_law_many"] spDraw := ok_draw Dd ml
    have Gp : FnOk P w K mg base CX0 2 Dp.f Dp.fd ["_law_tape", "_law_items"] (spPick K) := ok_pick Dp Dd ml
    refine D.F.ok scTree (fun vs H Q E h => ?_) (fun cdv A outer s H vs Q E hr h => ?_)
    · obtain ⟨t, c, m, z, sg, lv, rfl, _⟩ := h
      rfl
    · obtain ⟨t, c, m, z, sg, lv, rfl, T, hm, al, sg0, sgl, lv1, lvn, lv100, k⟩ := h
      have hr1 : Room 1 _ := hr.mono (by omega)
      have hr2 : Room 2 _ := hr.mono (by omega)
      have hrm : Room (n + 2) _ := hr.mono (by omega)
      have szz : z.length = (tl z).length := (Array.length_toList).symm
      have z1 := al.2.1
      have z3 := al.2.2.1
      obtain ⟨lw, rfl⟩ : ∃ lw : Nat, lv = (lw : Int) := ⟨lv.toNat, by omega⟩
      rw [Int.toNat_natCast] at hm lvn k
      refine ⟨_, PSs.nox (pss_cons (ps_set (i := 4) scTree.nd rfl (.inl rfl) (pe_call Gd hr1 (by rfl) Dd.g Dd.F.kp Dd.b .nil pass0 (pa_cons (pv 0) (pa_cons pe_int pa_nil)))) (pss_cons (ps_if (pw_or (pt_cmpR op_lt (pv 3) pe_int (nomark _)) (pw_or1 (pt_cmpR op_eq (pv 4) pe_int (nomark _)))).pt (pss_one (ps_ret (pe_tup (pa_cons pe_str (pa_cons (pe_ifExp (pt_cmpR op_eq (pe_call Gd hr1 (by rfl) Dd.g Dd.F.kp Dd.b .nil pass0 (pa_cons (pv 0) (pa_cons pe_int pa_nil))) pe_int (nomark _)) pe_str (pe_call Gp hr2 (by rfl) Dp.g Dp.F.kp Dp.b .nil pass0 (pa_cons (pv 0) (pa_cons (pv 1) pa_nil)))) pa_nil))))) pss_nil) (pss_cons (ps_if (pt_cmpR op_lt (pv 4) pe_int (nomark _)) (pss_one (ps_ret (pe_tup (pa_cons pe_str (pa_cons (pe_call Gp hr2 (by rfl) Dp.g Dp.F.kp Dp.b .nil pass0 (pa_cons (pv 0) (pa_cons (pv 2) pa_nil))) (pa_cons (pe_call Gm hrm (by rfl) D.g D.F.kp D.b .nil pass0 (pa_cons (pv 0) (pa_cons (pv 1) (pa_cons (pv 2) (pa_cons (pe_op op_sub (pv 3) pe_int) pa_nil))))) pa_nil)))))) pss_nil) (pss_cons (ps_set (i := 5) scTree.nd rfl (.inl rfl) (pe_op op_add pe_int (pe_call Gd hr1 (by rfl) Dd.g Dd.F.kp Dd.b .nil pass0 (pa_cons (pv 0) (pa_cons (pe_op op_sub (pv 3) pe_int) pa_nil))))) (pss_cons (ps_set (i := 6) scTree.nd rfl (.inl rfl) (pe_call Gm hrm (by rfl) D.g D.F.kp D.b .nil pass0 (pa_cons (pv 0) (pa_cons (pv 1) (pa_cons (pv 2) (pa_cons (pv 5) pa_nil)))))) (pss_one (ps_ret (pe_tup (pa_cons (pe_ifExp (pt_cmpR op_lt (pv 4) pe_int (nomark _)) pe_str pe_str) (pa_cons (pv 6) (pa_cons (pe_call Gm hrm (by rfl) D.g D.F.kp D.b .nil pass0 (pa_cons (pv 0) (pa_cons (pv 1) (pa_cons (pv 2) (pa_cons (pe_op op_sub (pv 3) (pv 5)) pa_nil))))) pa_nil))))))))))), ?_⟩
      refine ⟨.ref t, rfl, t, c, 8, m, rfl, T, by omega, by decide, by decide, fun H1 wy k1 T1 w0 w8 => ?_⟩
      refine ⟨_, rfl, _, _, rfl, rfl, _, rfl, ite2 (fun e => ?leaf) (fun e => ?or)⟩
      case' or => refine ⟨_, rfl, rfl, _, rfl, ite2 (fun e2 => ?leaf2) (fun e2 => ?rest)⟩
      case' leaf => refine iteT ?_
      case rest =>
        have lw2 : ¬ ((lw : Int) < 2) := fun h => e (by simpa using h)
        refine ⟨_, rfl, _, _, rfl, rfl, _, rfl, ite2 (fun e3 => ?_) (fun e3 => ?_)⟩
        · refine ⟨.ref t, rfl, .str sg, rfl, t, c, _, .str sg, rfl, T1, by omega, .inr ⟨sg, rfl, sg0, by omega, fun H2 d k2 T2 hd => ?_⟩⟩
          refine ⟨.ref t, rfl, .str z, rfl, .str sg, rfl, _, rfl, _, _, rfl, rfl, t, c, _, z, sg, ((lw - 1 : Nat) : Int), by show [V.ref t, .str z, .str sg, .int ((lw : Int) - 1)] = _; rw [show ((lw : Int) - 1) = ((lw - 1 : Nat) : Int) by omega], T2, by rw [Int.toNat_natCast]; omega, al, sg0, sgl, by omega, by rw [Int.toNat_natCast]; omega, by omega, fun H3 v tr k3 T3 iT oT wT => ?_⟩
          rw [Int.toNat_natCast] at T3 wT
          refine ⟨by show 3 ≤ sizeLine; decide, fun b hb => ?_⟩
          have s4 := same_upd (o := .tup [.str "post", .str (one d), v]) hb
          exact k _ _ (.post d tr) (((k1.trans k2).trans k3).trans (T3.kp s4)) ((T3.same s4).mono (by omega)) (.post (SqT.of upd_same) (iT.mono (same_tup s4))) ⟨hd, oT⟩ (by show tr.wt + 1 ≤ lw; omega)
        · refine ⟨.ref t, rfl, _, rfl, _, _, rfl, rfl, t, c, _, _, rfl, T1, by omega, by omega, by omega, fun H2 f k2 T2 f0 f1 => ?_⟩
          obtain ⟨fn, rfl⟩ : ∃ fn : Nat, f = (fn : Int) := ⟨f.toNat, by omega⟩
          refine ⟨_, _, rfl, rfl, ?_⟩
          refine ⟨.ref t, rfl, .str z, rfl, .str sg, rfl, _, rfl, t, c, _, z, sg, ((fn + 1 : Nat) : Int), by show [V.ref t, .str z, .str sg, .int ((1 : Int) + fn)] = _; rw [show ((1 : Int) + fn) = ((fn + 1 : Nat) : Int) by omega], T2, by rw [Int.toNat_natCast]; omega, al, sg0, sgl, by omega, by rw [Int.toNat_natCast]; omega, by omega, fun H3 v tr k3 T3 iT oT wT => ?_⟩
          rw [Int.toNat_natCast] at T3 wT
          refine ⟨_, rfl, _, _, rfl, rfl, _, rfl, ?_⟩
          refine ite2 (fun e4 => ?_) (fun e4 => ?_)
          · refine ⟨_, rfl, .ref t, rfl, .str z, rfl, .str sg, rfl, _, rfl, _, rfl, _, _, rfl, rfl, t, c, _, z, sg, ((lw - (fn + 1) : Nat) : Int), by show [V.ref t, .str z, .str sg, .int ((lw : Int) - ((1 : Int) + fn))] = _; rw [show ((lw : Int) - ((1 : Int) + fn)) = ((lw - (fn + 1) : Nat) : Int) by omega], T3, by rw [Int.toNat_natCast]; omega, al, sg0, sgl, by omega, by rw [Int.toNat_natCast]; omega, by omega, fun H4 v' tr' k4 T4 iT' oT' wT' => ?_⟩
            rw [Int.toNat_natCast] at T4 wT'
            refine ⟨by show 3 ≤ sizeLine; decide, fun b hb => ?_⟩
            have s5 := same_upd (o := .tup [.str "choice", v, v']) hb
            exact k _ _ (.bin true tr tr') ((((k1.trans k2).trans k3).trans k4).trans (T4.kp s5)) ((T4.same s5).mono (by omega)) (.bin true (SqT.of upd_same) ((iT.mono (kp_tup k4)).mono (same_tup s5)) (iT'.mono (same_tup s5))) ⟨oT, oT'⟩ (by show tr.wt + tr'.wt ≤ lw; omega)
          · refine ⟨_, rfl, .ref t, rfl, .str z, rfl, .str sg, rfl, _, rfl, _, rfl, _, _, rfl, rfl, t, c, _, z, sg, ((lw - (fn + 1) : Nat) : Int), by show [V.ref t, .str z, .str sg, .int ((lw : Int) - ((1 : Int) + fn))] = _; rw [show ((lw : Int) - ((1 : Int) + fn)) = ((lw - (fn + 1) : Nat) : Int) by omega], T3, by rw [Int.toNat_natCast]; omega, al, sg0, sgl, by omega, by rw [Int.toNat_natCast]; omega, by omega, fun H4 v' tr' k4 T4 iT' oT' wT' => ?_⟩
            rw [Int.toNat_natCast] at T4 wT'
            refine ⟨by show 3 ≤ sizeLine; decide, fun b hb => ?_⟩
            have s5 := same_upd (o := .tup [.str "join", v, v']) hb
            exact k _ _ (.bin false tr tr') ((((k1.trans k2).trans k3).trans k4).trans (T4.kp s5)) ((T4.same s5).mono (by omega)) (.bin false (SqT.of upd_same) ((iT.mono (kp_tup k4)).mono (same_tup s5)) (iT'.mono (same_tup s5))) ⟨oT, oT'⟩ (by show tr.wt + tr'.wt ≤ lw; omega)
      all_goals
        refine ⟨.ref t, rfl, t, c, 6, m + 1, rfl, T1, by omega, by decide, by decide, fun H2 r k2 T2 r0 r1 => ⟨rfl, _, rfl, ite2 (fun _ => ?_) (fun _ => ?_)⟩⟩
        · refine ⟨by show 2 ≤ sizeLine; decide, fun b hb => ?_⟩
          have s3 := same_upd (o := .tup [.str "leaf", .str "()"]) hb
          exact k _ _ (.leaf [40, 41]) ((k1.trans k2).trans (T2.kp s3)) ((T2.same s3).mono (by omega)) (.leaf (SqT.of upd_same) (by decide +kernel)) (.inl rfl) (by show 1 ≤ lw; omega)
        · refine ⟨.ref t, rfl, .str z, rfl, t, c, m + 2, .str z, rfl, T2, by omega, .inr ⟨z, rfl, by omega, by omega, fun H3 d k3 T3 hd => ?_⟩⟩
          refine ⟨by show 2 ≤ sizeLine; decide, fun b hb => ?_⟩
          have s4 := same_upd (o := .tup [.str "leaf", .str (one d)]) hb
          exact k _ _ (.leaf [d]) (((k1.trans k2).trans k3).trans (T3.kp s4)) ((T3.same s4).mono (by omega)) (.leaf (SqT.of upd_same) rfl) (.inr ⟨d, hd, rfl⟩) (by show 1 ≤ lw; omega)
end
end DW
/-! _law_written -/
namespace DW
open PySem PySem.Spec PyProof.Rows L2 TL
set_option autoImplicit false
def spWr (n : Nat) (K : PySem.W.Frag) : Sp := fun vs H Q _ => ∃ (t c : Addr) (m : Nat) (z : Str) (sg : List Nat) (v : V) (tr : Tr) (p : Nat), vs = [.ref t, v, .int p] ∧ Tape H t c m ∧ m + 10 * tr.wt < 2 ^ 40 ∧ IsTr K H v tr ∧ tr.Ok z sg ∧ tr.wt ≤ n ∧ n ≤ 100 ∧
  ∀ H' x, Kp t H H' → Tape H' t c (m + (2 * tr.wt - 1)) → Wrp tr.lev (Bare tr) p (tl x) → Q (.str x) H'
def lvD : List (Key × V) := [(.inr "choice", .int 0), (.inr "join", .int 1)]
def binL (ch : Bool) : Int := if ch then 0 else 1
def nodeN : Tr → Str
  | .leaf _ => "leaf"
  | .post _ _ => "post"
  | .bin ch _ _ => binN ch
theorem lvD_get (tr : Tr) : (valV (mergeK [] lvD) (Sum.inr (nodeN tr))).getD (.int 2) = .int (tr.lev : Nat) := by
  cases tr with
  | leaf => show (valV (mergeK [] lvD) (Sum.inr ("leaf" : Str))).getD (.int 2) = .int 2; decide +kernel
  | post => show (valV (mergeK [] lvD) (Sum.inr ("post" : Str))).getD (.int 2) = .int 2; decide +kernel
  | bin ch =>
    cases ch with
    | true => show (valV (mergeK [] lvD) (Sum.inr ("choice" : Str))).getD (.int 2) = .int 0; decide +kernel
    | false => show (valV (mergeK [] lvD) (Sum.inr ("join" : Str))).getD (.int 2) = .int 1; decide +kernel
section
variable {P : Program} {w : World} {K : PySem.W.Frag} {mg : Str → Option Value} {base : Heap}
theorem IsTr.node {H : Hp} {v : V} {tr : Tr} (h : IsTr K H v tr) : ∃ b xs, v = .ref b ∧ SqT K H b (.str (nodeN tr) :: xs) := by
  cases h with
  | leaf h e => exact ⟨_, _, rfl, h⟩
  | post h r => exact ⟨_, _, rfl, h⟩
  | bin ch h i j => exact ⟨_, _, rfl, h⟩
theorem scWrit : FnScope ["_law_tape", "_law_tree_here", "_law_place", "_law_word", "_law_level", "_law_text", "_law_sign"] ["_law_tape", "_law_tree_here", "_law_place"] (defScope sLWritten) := ⟨rfl, rfl, rfl, by decide +kernel, rfl, by decide +kernel, by decide +kernel⟩
theorem ok_writ (D : Df K mg "_law_written" sLWritten ["_law_tape", "_law_tree_here", "_law_place"]) (Dd : DfDraw K mg) (ml : mg "len" = none) : ∀ n, n ≤ 100 → FnOk P w K mg base CX0 (n + 1) D.f D.fd ["_law_tape", "_law_tree_here", "_law_place"] (spWr n K)
  | 0, _ => ⟨fun vs H Q E ⟨_, _, _, _, _, _, tr, _, _, _, _, _, _, h, _⟩ => absurd (Nat.le_trans tr.wt1 h) (by omega), fun A outer s H args us vs Q E _ _ _ _ ⟨_, _, _, _, _, _, tr, _, _, _, _, _, _, h, _⟩ => absurd (Nat.le_trans tr.wt1 h) (by omega)⟩
  | n + 1, hn => by
    have Gm : FnOk P w K mg base CX0 (n + 1) D.f D.fd ["_law_tape", "_law_tree_here", "_law_place"] (spWr n K) := ok_writ D Dd ml n (by omega)
    have Gd : FnOk P w K mg base CX0 1 Dd.f Dd.fd ["_law_tape", "_law_many"] spDraw := ok_draw Dd ml
    refine D.F.ok scWrit (fun vs H Q E h => ?_) (fun cdv A outer s H vs Q E hr h => ?_)
    · obtain ⟨t, c, m, z, sg, v, tr, p, rfl, _⟩ := h
      rfl
    · obtain ⟨t, c, m, z, sg, v, tr, p, rfl, T, hm, iT, oT, wn, n100, k⟩ := h
      have hr1 : Room 1 _ := hr.mono (by omega)
      have hrm : Room (n + 1) _ := hr.mono (by omega)
      have hu := hu_of hr
      have w1 := tr.wt1
      refine ⟨_, PSs.nox (pss_cons (ps_par (i := 3) (j := 4) rfl scWrit.nd rfl rfl (by decide) rfl rfl (pa_cons (pe_ix ix_tup (pv 1) pe_int (fun _ _ => rfl)) (pa_cons (pe_dget2 hu (pe_disp (pps_cons pe_str pe_int (pps_cons pe_str pe_int pps_nil)) (by rfl) (by rfl) (fun z => by cases z) (by decide)) (pe_ix ix_tup (pv 1) pe_int (fun _ _ => rfl)) pe_int ⟨by rfl, by rfl, by rfl, by rfl⟩) pa_nil)) (by rfl)) (C8.pss_cut (ps_if (pt_cmpR op_eq (pv 3) pe_str (nomark _)) (pss_one (ps_set (i := 5) scWrit.nd rfl (.inl rfl) (pe_ix ix_tup (pv 1) pe_int (fun _ _ => rfl)))) (pss_one (ps_if (pt_cmpR op_eq (pv 3) pe_str (nomark _)) (pss_one (ps_set (i := 5) scWrit.nd rfl (.inl rfl) (pe_op op_add_str (pe_call Gm hrm (by rfl) D.g D.F.kp D.b .nil pass0 (pa_cons (pv 0) (pa_cons (pe_ix ix_tup (pv 1) pe_int (fun _ _ => rfl)) (pa_cons pe_int pa_nil)))) (pe_ix ix_tup (pv 1) pe_int (fun _ _ => rfl))))) (pss_cons (ps_set (i := 6) scWrit.nd rfl (.inl rfl) (pe_ifExp (pt_cmpR op_eq (pv 3) pe_str (nomark _)) pe_str pe_str)) (pss_one (ps_set (i := 5) scWrit.nd rfl (.inl rfl) (pe_op op_add_str (pe_op op_add_str (pe_call Gm hrm (by rfl) D.g D.F.kp D.b .nil pass0 (pa_cons (pv 0) (pa_cons (pe_ix ix_tup (pv 1) pe_int (fun _ _ => rfl)) (pa_cons (pv 4) pa_nil)))) (pv 6)) (pe_call Gm hrm (by rfl) D.g D.F.kp D.b .nil pass0 (pa_cons (pv 0) (pa_cons (pe_ix ix_tup (pv 1) pe_int (fun _ _ => rfl)) (pa_cons (pv 4) pa_nil))))))))))) (pss_one (ps_ret (pe_ifExp (pw_or (pt_cmpR op_lt (pv 4) (pv 2) (nomark _)) (pw_or1 (pt_cmpR op_eq (pe_call Gd hr1 (by rfl) Dd.g Dd.F.kp Dd.b .nil pass0 (pa_cons (pv 0) (pa_cons pe_int pa_nil))) pe_int (nomark _)))).pt (pe_op op_add_str (pe_op op_add_str pe_str (pv 5)) pe_str) (pv 5)))))), ?_⟩
      obtain ⟨b, xs, rfl, hb⟩ := iT.node
      refine ⟨.ref b, rfl, b, _, 0, .str (nodeN tr), rfl, rfl, hb, atI_of (j := 0) rfl rfl, fun d hd => ?_⟩
      have sD : Same H (upd (upd H d (.dK [])) d (.dK (mergeK [] lvD))) := fun c o e => (upd_ne (ne_of_none e hd)).trans ((upd_ne (ne_of_none e hd)).trans e)
      refine ⟨upd_same, lvD, rfl, by show 2 ≤ 15; decide, d, rfl, .inl ⟨_, .inl upd_same⟩, .ref b, rfl, b, _, 0, .str (nodeN tr), rfl, rfl, same_tup sD _ _ hb, atI_of (j := 0) rfl rfl, _, DGet.k (k := Sum.inr (nodeN tr)) upd_same, ?_⟩
      rw [lvD_get tr]
      have kD := T.kp sD
      have T := T.same sD
      have iT := iT.mono (same_tup sD)
      have hb := same_tup sD _ _ hb
      generalize upd (upd H d (.dK [])) d (.dK (mergeK [] lvD)) = H1 at sD T kD iT hb ⊢
      refine ⟨_, _, rfl, ?_⟩
      have slz := sizeLine_eq
      have szx : ∀ y : Str, y.length = (tl y).length := fun y => (Array.length_toList).symm
      refine ⟨fun σ H' => ∃ (x : Str) (y6 : Option V), σ = [some (.ref t), some (.ref b), some (.int p), some (.str (nodeN tr)), some (.int (tr.lev : Nat)), some (.str x), y6] ∧ Kp t H H' ∧ Tape H' t c (m + (2 * tr.wt - 2)) ∧ Bare tr (tl x), ?_, ?_⟩
      · cases iT with
        | @leaf _ x _ h e =>
          refine ⟨_, rfl, rfl, _, rfl, ?_⟩
          show if decide (V.str "leaf" = V.str "leaf") = true then _ else _
          rw [decide_eq_true rfl]
          refine iteT ⟨.ref b, rfl, b, _, 1, .str x, rfl, rfl, h, atI_of (j := 1) rfl rfl, ?_⟩
          exact ⟨x, _, rfl, kD, T.mono (by omega), e⟩
        | @post _ cc v tt h r =>
          refine ⟨_, rfl, rfl, _, rfl, ?_⟩
          show if decide (V.str "post" = V.str "leaf") = true then _ else _
          rw [show decide (V.str "post" = V.str "leaf") = false by decide +kernel]
          refine iteF ⟨_, rfl, rfl, _, rfl, ?_⟩
          show if decide (V.str "post" = V.str "post") = true then _ else _
          rw [decide_eq_true rfl]
          have oT : cc ∈ sg ∧ tt.Ok z sg := oT
          have wn : tt.wt + 1 ≤ n + 1 := wn
          refine iteT ⟨.ref t, rfl, .ref b, rfl, b, _, 2, v, rfl, rfl, h, atI_of (j := 2) rfl rfl, t, c, m, z, sg, v, tt, 2, rfl, T, (by have hm : m + 10 * (tt.wt + 1) < 2 ^ 40 := hm; omega), r, oT.2, by omega, by omega, fun H2 x k2 T2 bx => ?_⟩
          have lx := bx.len fun s h => Bare.len oT.2 h
          refine ⟨.ref b, rfl, b, _, 1, .str (one cc), rfl, rfl, k2.tup h, atI_of (j := 1) rfl rfl, x, one cc, rfl, rfl, ?_, ?_⟩
          · rw [szx, szx, tl_one]
            show (tl x).length + 1 ≤ _
            omega
          · refine ⟨_, _, rfl, kD.trans k2, T2.mono (by show m + (2 * tt.wt - 1) ≤ m + (2 * (tt.wt + 1) - 2); omega), ?_⟩
            exact ⟨tl x, bx, by rw [tl_app, tl_one]⟩
        | @bin _ v v' l r ch h i j =>
          have oT : l.Ok z sg ∧ r.Ok z sg := oT
          have wn : l.wt + r.wt ≤ n + 1 := wn
          have hm : m + 10 * (l.wt + r.wt) < 2 ^ 40 := hm
          have wl := l.wt1
          have wr := r.wt1
          refine ⟨_, rfl, rfl, _, rfl, ?_⟩
          show if decide (V.str (binN ch) = V.str "leaf") = true then _ else _
          rw [show decide (V.str (binN ch) = V.str "leaf") = false by cases ch <;> decide +kernel]
          refine iteF ⟨_, rfl, rfl, _, rfl, ?_⟩
          show if decide (V.str (binN ch) = V.str "post") = true then _ else _
          rw [show decide (V.str (binN ch) = V.str "post") = false by cases ch <;> decide +kernel]
          refine iteF ⟨_, rfl, rfl, _, rfl, ?_⟩
          show if decide (V.str (binN ch) = V.str "choice") = true then _ else _
          rw [show decide (V.str (binN ch) = V.str "choice") = ch by cases ch <;> decide +kernel]
          cases ch with
          | true => 
            refine iteT ?_
            refine ⟨.ref t, rfl, .ref b, rfl, b, _, 1, v, rfl, rfl, h, atI_of (j := 1) rfl rfl, _, rfl, t, c, m, z, sg, v, l, 0, rfl, T, by omega, i, oT.1, by omega, by omega, fun H2 x k2 T2 bx => ?_⟩
            have lx := bx.len fun s h => Bare.len oT.1 h
            refine ⟨_, rfl, x, "|", rfl, rfl, by rw [szx x, show ("|" : Str).length = 1 from rfl]; omega, ?_⟩
            refine ⟨.ref t, rfl, .ref b, rfl, b, _, 2, v', rfl, rfl, k2.tup h, atI_of (j := 2) rfl rfl, _, rfl, t, c, _, z, sg, v', r, 0, rfl, T2, by omega, j.mono (kp_tup k2), oT.2, by omega, by omega, fun H3 y k3 T3 by_ => ?_⟩
            have ly := by_.len fun s h => Bare.len oT.2 h
            have exy : tl ((x ++ ("|" : Str)) ++ y) = tl x ++ (124 :: tl y) := by
              rw [tl_app, tl_app, List.append_assoc]
              rfl
            refine ⟨_, y, rfl, rfl, ?_, ?_⟩
            · rw [szx (x ++ ("|" : Str)), szx y, tl_app, List.length_append]
              show (tl x).length + 1 + _ ≤ _
              omega
            · refine ⟨_, _, rfl, (kD.trans k2).trans k3, T3.mono (by show m + (2 * l.wt - 1) + (2 * r.wt - 1) ≤ m + (2 * (l.wt + r.wt) - 2); omega), ?_⟩
              exact ⟨tl x, tl y, bx, by_, exy⟩
          | false =>
            refine iteF ?_
            refine ⟨.ref t, rfl, .ref b, rfl, b, _, 1, v, rfl, rfl, h, atI_of (j := 1) rfl rfl, _, rfl, t, c, m, z, sg, v, l, 1, rfl, T, by omega, i, oT.1, by omega, by omega, fun H2 x k2 T2 bx => ?_⟩
            have lx := bx.len fun s h => Bare.len oT.1 h
            refine ⟨_, rfl, x, "", rfl, rfl, by rw [szx x, show ("" : Str).length = 0 from rfl]; omega, ?_⟩
            refine ⟨.ref t, rfl, .ref b, rfl, b, _, 2, v', rfl, rfl, k2.tup h, atI_of (j := 2) rfl rfl, _, rfl, t, c, _, z, sg, v', r, 1, rfl, T2, by omega, j.mono (kp_tup k2), oT.2, by omega, by omega, fun H3 y k3 T3 by_ => ?_⟩
            have ly := by_.len fun s h => Bare.len oT.2 h
            have exy : tl ((x ++ ("" : Str)) ++ y) = tl x ++ tl y := by
              rw [tl_app, tl_app, List.append_assoc]
              rfl
            refine ⟨_, y, rfl, rfl, ?_, ?_⟩
            · rw [szx (x ++ ("" : Str)), szx y, tl_app, List.length_append]
              show (tl x).length + 0 + _ ≤ _
              omega
            · refine ⟨_, _, rfl, (kD.trans k2).trans k3, T3.mono (by show m + (2 * l.wt - 1) + (2 * r.wt - 1) ≤ m + (2 * (l.wt + r.wt) - 2); omega), ?_⟩
              exact ⟨tl x, tl y, bx, by_, exy⟩
      · rintro σ H' ⟨x, y6, rfl, kk, T', bx⟩
        have lx := Bare.len oT bx
        have par : tl ((("(" : Str) ++ x) ++ (")" : Str)) = 40 :: (tl x ++ [41]) := by
          rw [tl_app, tl_app]
          rfl
        have go : ∀ H5, Kp t H H5 → Tape H5 t c (m + (2 * tr.wt - 1)) → ∃ i j : Str, V.str "(" = V.str i ∧ V.str x = V.str j ∧ i.length + j.length ≤ sizeLine ∧ ∃ i' j' : Str, V.str (i ++ j) = V.str i' ∧ V.str ")" = V.str j' ∧ i'.length + j'.length ≤ sizeLine ∧ Q (V.str (i' ++ j')) H5 := fun H5 k5 T5 => by
          have l1 : ("(" : Str).length = 1 := rfl
          have l2 : (")" : Str).length = 1 := rfl
          refine ⟨_, _, rfl, rfl, by rw [szx x, l1]; omega, _, _, rfl, rfl, ?_, ?_⟩
          · rw [szx (("(" : Str) ++ x), l2, tl_app, List.length_append]
            show 1 + (tl x).length + 1 ≤ _
            omega
          · exact k _ _ k5 T5 (.inr ⟨tl x, bx, par⟩)
        refine ⟨_, rfl, _, rfl, _, _, rfl, rfl, _, rfl, ite2 (fun e => iteT ?_) (fun e => ?_)⟩
        · obtain ⟨i, j, e1, e2, e3, i', j', e4, e5, e6, e7⟩ := go H' kk (T'.mono (by omega))
          exact ⟨_, rfl, i, j, e1, e2, e3, i', j', e4, e5, e6, e7⟩
        · refine ⟨.ref t, rfl, t, c, 6, _, rfl, T', by omega, by decide, by decide, fun H5 rr k5 T5 r0 r1 => ⟨rfl, _, rfl, ite2 (fun _ => ?_) (fun _ => ?_)⟩⟩
          · obtain ⟨i, j, e1, e2, e3, i', j', e4, e5, e6, e7⟩ := go H5 (kk.trans k5) (T5.mono (by omega))
            exact ⟨_, rfl, i, j, e1, e2, e3, i', j', e4, e5, e6, e7⟩
          · refine ⟨_, rfl, k _ _ (kk.trans k5) (T5.mono (by omega)) (.inl ⟨bx, ?_⟩)⟩
            have : ¬ ((tr.lev : Int) < (p : Int)) := fun h => e (by simpa using h)
            omega
end
end DW
/-! reading expressions -/
namespace DW
open PySem PySem.Spec PyProof.Rows L2 TL
set_option autoImplicit false
/-- a reader of texts of a kind, before what may follow: it returns the Language and the index behind -/
def spRead (K : PySem.W.Frag) (C : Addr) (G : Str → LP) (F : List Nat → Prop) : Sp := fun vs H Q _ => ∃ (z x : Str) (i : Nat) (s rest : List Nat) (W : List Nat → Prop) (n l : Nat), vs = [.str z, .str x, .int (i : Int)] ∧ (tl x).drop i = s ++ rest ∧ (tl x).length ≤ 60 ∧ Alph z ∧ G z s W n l ∧ F rest ∧
  ∀ H' T p zs, Same H H' → SqT K H' T [.ref p, .int ((i + s.length : Nat) : Int)] → LaNew K C H H' p z zs → Cl z zs n l → (∀ u, Ha zs u ↔ W u) → Q (.ref T) H'
theorem LaNew.post {K : PySem.W.Frag} {C : Addr} {H H' H2 : Hp} {x : Addr} {z : Str} {zs : List (List Fc)} (h : LaNew K C H H' x z zs) (s : Same H' H2) : LaNew K C H H2 x z zs := by
  obtain ⟨d, q, ys, h1, h2, h3, h4, h5⟩ := h
  exact ⟨d, q, ys, s _ _ h1, s _ _ h2, h3.mono (same_tup s), h4, h5⟩
theorem at_drop {x : Str} {i : Nat} {c : Nat} {r : List Nat} (h : (tl x).drop i = c :: r) : (tl x)[i]? = some c := by
  have := congrArg (fun l : List Nat => l[0]?) h
  simpa using this
theorem clw_goE {K : PySem.W.Frag} {C : Addr} {H : Hp} {Q : VK} {E : XK} {z t : Str} {a : Addr} {n : Nat} (al : Alph z) (g : SqL K H a [.str t]) (ov : OverW z t) (tn : (tl t).length ≤ n) (hn : n ≤ 1000)
    (go : ∀ H' v ws, Same H H' → LaNew K C H H' v z ws → Cl z ws 1 n → (∀ u, Ha ws u ↔ u.Sublist (tl t)) → Q (.ref v) H') : spClw K C [.str z, .ref a] H Q E := by
  refine ⟨a, z, [t], rfl, g, al, by show 1 ≤ 1000000; decide, fun u hu => by rw [List.mem_singleton.mp hu]; exact ⟨ov, by omega⟩, fun H' p zs s new mo => ?_⟩
  have ok : ∀ q ∈ [t].map fun u => ones (tl u), ∀ f ∈ q, FOk z f := fun q hq => by
    rw [List.mem_singleton.mp hq]
    exact fok_ones ov
  refine go H' p zs s new (Cl.of al mo ok (Nat.le_refl 1) fun q hq => by rw [List.mem_singleton.mp hq]; show ((tl t).map _).length ≤ n; rw [List.length_map]; exact tn) fun u => (Ha.max al mo ok u).trans ?_
  constructor
  · rintro ⟨q, hq, l⟩
    rw [List.mem_singleton.mp hq] at l
    have := (sub_unf_iff (w1_ones (tl t)) (Nat.le_refl u.length)).mpr l
    rwa [unf_ones] at this
  · intro h
    refine ⟨ones (tl t), List.mem_singleton.mpr rfl, ?_⟩
    have := sub_unf_iff (w1_ones (tl t)) (Nat.le_refl u.length)
    rw [unf_ones] at this
    exact this.mp h
section
variable {P : Program} {w : World} {K : PySem.W.Frag} {mg : Str → Option Value} {base : Heap}
theorem scRop : FnScope ["alphabet", "text", "start", "found", "end"] ["alphabet", "text", "start"] (defScope sReadOperand) := ⟨rfl, rfl, rfl, by decide +kernel, rfl, by decide +kernel, by decide +kernel⟩
theorem ok_rop {e d : Nat} (he : 9 ≤ e) (D : Df K mg "read_operand" sReadOperand ["alphabet", "text", "start"]) (Dc : Df K mg "closure_of_words" sClosureOfWords ["alphabet", "words"]) (L : DfLa K mg)
    (Dr : Df K mg "read_choice" sReadChoice ["alphabet", "text", "start"]) (Gr : FnOk P w K mg base CX0 e Dr.f Dr.fd ["alphabet", "text", "start"] (spRead K L.C (fun z => ChD z d) fun r => ∃ r', r = 41 :: r')) : FnOk P w K mg base CX0 (e + 1) D.f D.fd ["alphabet", "text", "start"] (spRead K L.C (fun z => OpP z (ChD z d)) fun _ => True) := by
  have Gc : FnOk P w K mg base CX0 9 Dc.f Dc.fd ["alphabet", "words"] (spClw K L.C) := ok_clw Dc L
  refine D.F.ok scRop (fun vs H Q E h => ?_) (fun cdv A outer s H vs Q E hr h => ?_)
  · obtain ⟨z, x, i, t, rest, W, n, l, rfl, _⟩ := h
    rfl
  · obtain ⟨z, x, i, t, rest, W, n, l, rfl, hx, xl, al, hG, _, k⟩ := h
    have hr9 : Room 9 _ := hr.mono (by omega)
    have hrr : Room e _ := hr.mono (by omega)
    refine ⟨_, PSs.nox (pss_cons (ps_if (pt_cmpR op_ne (pe_ix ix_str (pv 1) (pv 2) (fun _ _ => rfl)) pe_str (nomark _)) (pss_one (ps_ret (pe_tup (pa_cons (pe_call Gc hr9 (by rfl) Dc.g Dc.F.kp Dc.b .nil pass0 (pa_cons (pv 0) (pa_cons (pe_lst (pa_cons (pe_ix ix_str (pv 1) (pv 2) (fun _ _ => rfl)) pa_nil)) pa_nil))) (pa_cons (pe_op op_add (pv 2) pe_int) pa_nil))))) pss_nil) (pss_cons (ps_if (pt_cmpR op_eq (pe_ix ix_str (pv 1) (pe_op op_add (pv 2) pe_int) (fun _ _ => rfl)) pe_str (nomark _)) (pss_one (ps_ret (pe_tup (pa_cons (pe_call Gc hr9 (by rfl) Dc.g Dc.F.kp Dc.b .nil pass0 (pa_cons (pv 0) (pa_cons (pe_lst (pa_cons pe_str pa_nil)) pa_nil))) (pa_cons (pe_op op_add (pv 2) pe_int) pa_nil))))) pss_nil) (pss_cons (ps_asg (pe_call Gr hrr (by rfl) Dr.g Dr.F.kp Dr.b .nil pass0 (pa_cons (pv 0) (pa_cons (pv 1) (pa_cons (pe_op op_add (pv 2) pe_int) pa_nil)))) (pg_tup rfl (pgs_cons (pg_name (i := 3) scRop.nd rfl (.inl rfl)) (pgs_cons (pg_name (i := 4) scRop.nd rfl (.inl rfl)) pgs_nil)))) (pss_one (ps_ret (pe_tup (pa_cons (pv 3) (pa_cons (pe_op op_add (pv 4) pe_int) pa_nil)))))))), ?_⟩
    obtain ⟨c0, r0, e0, hb⟩ := hG.beg
    have h0 : (tl x)[i]? = some c0 := at_drop (r := r0 ++ rest) (by rw [hx, e0]; rfl)
    have il : i < (tl x).length := (List.getElem?_eq_some_iff.mp h0).1
    have szx : x.length = (tl x).length := (Array.length_toList).symm
    have sl := sizeLine_eq
    have ne1 : ∀ c : Nat, c ≠ 40 → decide (V.str (⟨#[c]⟩ : Str) = V.str "(") = false := fun c h => decide_eq_false fun e => h (by
      have := congrArg tl (V.str.inj e)
      exact (List.cons.inj this).1)
    refine ⟨.str x, rfl, .int (i : Int), rfl, x, (i : Int), c0, rfl, rfl, by omega, at_cp rfl h0, rfl, _, rfl, ?_⟩
    cases hG with
    | @letter c hc =>
      have ec : c0 = c := (List.cons.inj e0).1.symm
      subst ec
      have h40 : c0 ≠ 40 := by have := al.2.2.2 c0 hc; omega
      rw [ne1 c0 h40]
      refine iteT ?_
      refine ⟨.str z, rfl, .str x, rfl, .int (i : Int), rfl, x, (i : Int), c0, rfl, rfl, by omega, at_cp rfl h0, by show 1 ≤ sizeLine; decide, fun l2 hl2 => ?_⟩
      have s2 := same_upd (o := .lst [V.str ⟨#[c0]⟩]) hl2
      refine nilI (clw_goE (n := 1) al (SqL.of upd_same) (fun d hd => by rw [List.mem_singleton.mp hd]; exact hc) (Nat.le_refl 1) (by decide) fun H3 p zs s3 lp cp hp => ?_)
      refine ⟨.int (i : Int), rfl, _, _, rfl, rfl, by show 2 ≤ sizeLine; decide, fun T hT => ?_⟩
      have s4 := same_upd (o := .tup [V.ref p, V.int ((i : Int) + 1)]) hT
      exact k _ T p zs ((s2.trans s3).trans s4) (SqT.of upd_same) ((lp.pre s2).post s4) cp hp
    | empty =>
      have ec : c0 = 40 := (List.cons.inj e0).1.symm
      subst ec
      rw [show decide (V.str (⟨#[40]⟩ : Str) = V.str "(") = true from decide_eq_true rfl]
      refine iteF ?_
      have h1 : (tl x)[i + 1]? = some 41 := by
        have e2 : (tl x).drop (i + 1) = 41 :: rest := by
          rw [← List.drop_drop, hx]
          rfl
        exact at_drop e2
      have il1 : i + 1 < (tl x).length := (List.getElem?_eq_some_iff.mp h1).1
      refine ⟨.str x, rfl, .int (i : Int), rfl, _, _, rfl, rfl, x, _, 41, rfl, rfl, by omega, at_cp (j := i + 1) rfl h1, rfl, _, rfl, ?_⟩
      rw [show decide (V.str (⟨#[41]⟩ : Str) = V.str ")") = true from decide_eq_true rfl]
      refine iteT ?_
      refine ⟨.str z, rfl, by show 1 ≤ sizeLine; decide, fun l2 hl2 => ?_⟩
      have s2 := same_upd (o := .lst [V.str ""]) hl2
      refine nilI (clw_goE (n := 0) al (SqL.of upd_same) (fun d hd => (nomatch hd)) (Nat.le_refl 0) (by decide) fun H3 p zs s3 lp cp hp => ?_)
      refine ⟨.int (i : Int), rfl, _, _, rfl, rfl, by show 2 ≤ sizeLine; decide, fun T hT => ?_⟩
      have s4 := same_upd (o := .tup [V.ref p, V.int ((i : Int) + 2)]) hT
      exact k _ T p zs ((s2.trans s3).trans s4) (SqT.of upd_same) ((lp.pre s2).post s4) cp fun u => (hp u).trans List.sublist_nil
    | @paren s' W n l h =>
      have ec : c0 = 40 := (List.cons.inj e0).1.symm
      subst ec
      rw [show decide (V.str (⟨#[40]⟩ : Str) = V.str "(") = true from decide_eq_true rfl]
      refine iteF ?_
      obtain ⟨c1, r1, e1, b1⟩ := ChD.beg h
      have e2 : (tl x).drop (i + 1) = s' ++ (41 :: rest) := by
        rw [← List.drop_drop, hx]
        show (s' ++ [41]) ++ rest = _
        rw [List.append_assoc]
        rfl
      have h1 : (tl x)[i + 1]? = some c1 := at_drop (r := r1 ++ (41 :: rest)) (by rw [e2, e1]; rfl)
      have il1 : i + 1 < (tl x).length := (List.getElem?_eq_some_iff.mp h1).1
      have h41 := (b1.low al).1
      refine ⟨.str x, rfl, .int (i : Int), rfl, _, _, rfl, rfl, x, _, c1, rfl, rfl, by omega, at_cp (j := i + 1) rfl h1, rfl, _, rfl, ?_⟩
      rw [show decide (V.str (⟨#[c1]⟩ : Str) = V.str ")") = false from decide_eq_false fun e => h41 (by
        have := congrArg tl (V.str.inj e)
        exact (List.cons.inj this).1)]
      refine iteF ?_
      refine ⟨.str z, rfl, .str x, rfl, .int (i : Int), rfl, _, _, rfl, rfl, z, x, i + 1, s', 41 :: rest, W, n, l, rfl, e2, xl, al, h, ⟨_, rfl⟩, fun H3 T p zs s3 hT lp cp hp => ?_⟩
      refine ⟨T, _, rfl, hT, rfl, _, _, rfl, _, _, rfl, rfl, ?_⟩
      refine ⟨.ref p, rfl, _, rfl, _, _, rfl, rfl, by show 2 ≤ sizeLine; decide, fun T2 hT2 => ?_⟩
      have s4 := same_upd (o := .tup [V.ref p, V.int (((i + 1 + s'.length : Nat) : Int) + 1)]) hT2
      refine k _ T2 p zs (s3.trans s4) ?_ (lp.post s4) cp hp
      have e9 : ((i + (40 :: (s' ++ [41])).length : Nat) : Int) = ((i + 1 + s'.length : Nat) : Int) + 1 := by
        rw [List.length_cons, List.length_append, List.length_singleton]
        omega
      rw [e9]
      exact SqT.of upd_same
end
end DW
/-! star_product, for rows without common_from (out of Z19, W38, Z34) -/
namespace DW
open PySem PySem.Spec PyProof.Rows L2 TL
set_option autoImplicit false
def stf (stay : Str) : List Fc := if tl stay = [] then [] else [(true, stay)]
theorem stf_split {stay : Str} {X : List Fc} {u : List Nat} (h : Lg (stf stay ++ X) u) : ∃ a b, u = a ++ b ∧ (∀ c ∈ a, c ∈ tl stay) ∧ Lg X b := by
  obtain ⟨a, b, e, h1, h2⟩ := h.split
  refine ⟨a, b, e, ?_, h2⟩
  unfold stf at h1
  split at h1
  · cases h1
    exact fun c hc => (nomatch hc)
  · exact (Lg.one_star rfl).mp h1
theorem stf_put {stay : Str} {X : List Fc} {a b : List Nat} (h : ∀ c ∈ a, c ∈ tl stay) (g : Lg X b) : Lg (stf stay ++ X) (a ++ b) := by
  refine Lg.app ?_ g
  unfold stf
  split
  · next e =>
    cases a with
    | nil => exact Lg.empty _
    | cons c a =>
      have := h c List.mem_cons_self
      rw [e] at this
      cases this
  · exact (Lg.one_star rfl).mpr h
def spStf (K : PySem.W.Frag) : Sp := fun vs H Q _ => ∃ z : Str, vs = [.str z] ∧ ∀ H' v, Same H H' → IsP K H' v (stf z) → Q v H'
theorem stf_len (x : Str) : (stf x).length ≤ 1 := by
  unfold stf
  split
  · exact Nat.zero_le _
  · exact Nat.le_refl 1
theorem stf_fok {z x : Str} (al : Alph z) {fs : List Fc} (ok : ∀ f ∈ fs, FOk z f) (hx : LtOf fs x) : ∀ f ∈ stf x, FOk z f := fun f hf => by
  unfold stf at hf
  split at hf
  · cases hf
  · next ne =>
    rw [List.mem_singleton.mp hf]
    refine ⟨ne, asc_sub _ _ hx.1 al.1 fun c hc => ?_, fun h => (nomatch h)⟩
    obtain ⟨g, hg, m⟩ := (hx.2 c).mp hc
    exact (ok g hg).2.1.subset m
section
variable {P : Program} {w : World} {K : PySem.W.Frag} {mg : Str → Option Value} {base : Heap}
theorem scStf : FnScope ["letters"] ["letters"] (defScope sStarProduct) := ⟨rfl, rfl, rfl, by decide +kernel, rfl, by decide +kernel, by decide +kernel⟩
theorem ok_stf (D : Df K mg "star_product" sStarProduct ["letters"]) : FnOk P w K mg base CX0 1 D.f D.fd ["letters"] (spStf K) := by
  refine D.F.ok scStf (fun vs H Q E h => ?_) (fun cdv A outer s H vs Q E hr h => ?_)
  · obtain ⟨z, rfl, _⟩ := h
    rfl
  · obtain ⟨z, rfl, k⟩ := h
    refine ⟨_, (pss_cons (ps_if (pt_cmpR op_eq (pv 0) pe_str (nomark _)) (pss_one (ps_ret (pe_tup pa_nil))) pss_nil) (pss_one (ps_ret (pe_tup (pa_cons (pe_tup (pa_cons pe_str (pa_cons (pv 0) pa_nil))) pa_nil))))), ?_⟩
    refine ⟨_, rfl, rfl, _, rfl, ?_⟩
    refine ite2 (fun e => ?_) (fun e => ?_)
    · have ez : tl z = [] := by
        rw [V.str.inj (of_decide_eq_true e)]
        rfl
      refine ⟨by show 0 ≤ sizeLine; decide, fun p hp => k _ _ (same_upd hp) ?_⟩
      unfold stf
      rw [if_pos ez]
      exact ⟨p, [], rfl, SqT.of upd_same, .nil⟩
    · have nz : tl z ≠ [] := fun q => e (decide_eq_true (congrArg V.str (tl_inj q)))
      refine ⟨.str z, rfl, by show 2 ≤ sizeLine; decide, fun p hp => ⟨by show 1 ≤ sizeLine; decide, fun p2 hp2 => k _ _ ((same_upd hp).trans (same_upd hp2)) ?_⟩⟩
      unfold stf
      rw [if_neg nz]
      exact ⟨p2, [V.ref p], rfl, SqT.of upd_same, .cons ⟨p, rfl, SqT.of (same_upd hp2 _ _ upd_same)⟩ .nil⟩
end
end DW
/-! star -/
namespace DW
open PySem PySem.Spec PyProof.Rows L2 TL
set_option autoImplicit false
def spStrN (K : PySem.W.Frag) (C : Addr) : Sp := fun vs H Q _ => ∃ (x : Addr) (z : Str) (A : List (List Fc)) (n l : Nat), vs = [.ref x] ∧ LaAt K C H x z A ∧ Alph z ∧ Cl z A n l ∧ l * n ≤ 1000 ∧
  ∀ H' v ws, Same H H' → LaNew K C H H' v z ws → Cl z ws 1 1 → (∀ u, Ha ws u ↔ ∀ c ∈ u, Ha A [c]) → Q (.ref v) H'
theorem flat_lenS {l : Nat} : ∀ zs : List (List Fc), (∀ q ∈ zs, q.length ≤ l) → zs.flatten.length ≤ l * zs.length
  | [], _ => Nat.zero_le _
  | q :: zs, h => by
    have h1 := h q List.mem_cons_self
    have h2 := flat_lenS zs fun r hr => h r (List.mem_cons_of_mem _ hr)
    rw [List.flatten_cons, List.length_append, List.length_cons, Nat.mul_succ]
    omega
theorem Cl.flat {z : Str} {A : List (List Fc)} {n l : Nat} (h : Cl z A n l) : A.flatten.length ≤ l * n := Nat.le_trans (flat_lenS A h.len) (Nat.mul_le_mul_left _ h.few)
theorem lg_one {c : Nat} : ∀ {q : List Fc}, Lg q [c] ↔ ∃ f ∈ q, c ∈ ls f
  | [] => ⟨fun h => (nomatch h), fun ⟨_, h, _⟩ => (nomatch h)⟩
  | f :: q => by
    constructor
    · intro h
      obtain ⟨g, hg, m⟩ := h.has
      exact ⟨g, hg, m⟩
    · rintro ⟨g, hg, m⟩
      rcases List.mem_cons.mp hg with e | hg
      · subst e
        by_cases k : g.1 = true
        · exact .star k m (Lg.empty _)
        · exact .opt (by cases h : g.1 with | true => exact absurd h k | false => rfl) m (Lg.empty _)
      · exact .skip (lg_one.mpr ⟨g, hg, m⟩)
theorem ha_one {A : List (List Fc)} {c : Nat} : Ha A [c] ↔ ∃ f ∈ A.flatten, c ∈ ls f := by
  constructor
  · rintro ⟨q, hq, l⟩
    obtain ⟨f, hf, m⟩ := lg_one.mp l
    exact ⟨f, List.mem_flatten.mpr ⟨q, hq, hf⟩, m⟩
  · rintro ⟨f, hf, m⟩
    obtain ⟨q, hq, hf⟩ := List.mem_flatten.mp hf
    exact ⟨q, hq, lg_one.mpr ⟨f, hf, m⟩⟩
theorem ha_stf {x : Str} {u : List Nat} : Ha [stf x] u ↔ ∀ c ∈ u, c ∈ tl x := by
  constructor
  · rintro ⟨q, hq, l⟩
    rw [List.mem_singleton.mp hq] at l
    obtain ⟨a, b, rfl, ha, lb⟩ := stf_split (X := []) (by rw [List.append_nil]; exact l)
    rw [Lg.of_nil lb, List.append_nil]
    exact ha
  · intro h
    refine ⟨stf x, List.mem_singleton.mpr rfl, ?_⟩
    have := stf_put (X := []) (a := u) (b := []) h .nil
    rwa [List.append_nil, List.append_nil] at this
section
variable {P : Program} {w : World} {K : PySem.W.Frag} {mg : Str → Option Value} {base : Heap}
theorem scStrN : FnScope ["language"] ["language"] (defScope sStar) := ⟨rfl, rfl, rfl, by decide +kernel, rfl, by decide +kernel, by decide +kernel⟩
theorem ok_strN (D : Df K mg "star" sStar ["language"]) (Ds : Df K mg "star_product" sStarProduct ["letters"]) (Dl : Df K mg "letters_of" sLettersOf ["factors"]) (C : DfC2 K mg) (L : DfLa K mg) (eC : L.C = C.C) (ms : mg "sorted" = none) (me : mg "set" = none) : FnOk P w K mg base CX0 9 D.f D.fd ["language"] (spStrN K L.C) := by
  have Gal : FnOk P w K mg base CX0 1 C.a.f C.a.fd ["self"] (spLaA K C.C) := ok_laA C
  have Gl : FnOk P w K mg base CX0 2 C.l.f C.l.fd ["self"] (spLaL K C.C) := ok_laL C Dl ms me
  have Gs : FnOk P w K mg base CX0 1 Ds.f Ds.fd ["letters"] (spStf K) := ok_stf Ds
  have GI : FnOk P w K mg base CX0 7 L.i.f L.i.fd ["self", "alphabet", "products"] (spLi K L.C) := ok_li L
  refine D.F.ok scStrN (fun vs H Q E h => ?_) (fun cdv A outer s H vs Q E hr h => ?_)
  · obtain ⟨x, z, A, n, l, rfl, _⟩ := h
    rfl
  · obtain ⟨x, z, A, n, l, rfl, lx, al, cA, nl, k⟩ := h
    have hr1 : Room 1 _ := hr.mono (by decide)
    have hr2 : Room 2 _ := hr.mono (by decide)
    have hr7 : Room (7 + 1) _ := hr.mono (by decide)
    rw [eC] at lx
    refine ⟨_, (pss_one (ps_ret (pe_make L.mkr GI hr7 (by rfl) L.g L.i.b .nil pass0 (pa_cons (pe_meth0 (pv 0) C.cl C.mta Gal hr1 C.a.b .nil pass0) (pa_cons (pe_lst (pa_cons (pe_call Gs hr1 (by rfl) Ds.g Ds.F.kp Ds.b .nil pass0 (pa_cons (pe_meth0 (pv 0) C.cl C.mtl Gl hr2 C.l.b .nil pass0) pa_nil)) pa_nil)) pa_nil))))), ?_⟩
    obtain ⟨dx, q0, ys0, g1, g2, g3⟩ := id lx
    refine ⟨.ref x, rfl, x, dx, _, rfl, g1, flL_no _ _ (by decide) (by decide), x, z, A, rfl, lx, ?_⟩
    refine ⟨.ref x, rfl, x, dx, _, rfl, g1, flL_no _ _ (by decide) (by decide), x, z, A, rfl, lx, al, cA.ok, Nat.le_trans cA.flat nl, fun H1 r s1 hr' => ?_⟩
    refine ⟨r, rfl, fun H2 v s2 isv => ⟨by show 1 ≤ sizeLine; decide, fun L2 hL => ?_⟩⟩
    have s3 := same_upd (o := .lst [v]) hL
    have okS : ∀ q ∈ [stf r], ∀ f ∈ q, FOk z f := fun q hq => by
      rw [List.mem_singleton.mp hq]
      exact stf_fok al (fun f hf => by
        obtain ⟨q, hq, hf⟩ := List.mem_flatten.mp hf
        exact cA.ok q hq f hf) hr'
    have leS : ∀ q ∈ [stf r], q.length ≤ 1 := fun q hq => by
      rw [List.mem_singleton.mp hq]
      exact stf_len r
    refine new_lang upd_same (.cons (isv.mono (same_tup s3)) .nil) al (by show 1 ≤ 1000000; decide) okS (fun q hq => Nat.le_trans (leS q hq) (by decide)) fun H' v ws s9 new mo => ?_
    refine k H' v ws (((s1.trans s2).trans s3).trans s9) (new.pre ((s1.trans s2).trans s3)) (Cl.of al mo okS (Nat.le_refl 1) leS) fun u => (Ha.max al mo okS u).trans (ha_stf.trans ?_)
    exact forall_congr' fun c => imp_congr_right fun _ => (hr'.2 c).trans ha_one.symm
end
end DW
/-! read_item -/
namespace DW
open PySem PySem.Spec PyProof.Rows L2 TL
set_option autoImplicit false
/-- what stands behind an item -/
def FIt (r : List Nat) : Prop := ∀ c r', r = c :: r' → c ≠ 42 ∧ c ≠ 43 ∧ c ≠ 63
section
variable {P : Program} {w : World} {K : PySem.W.Frag} {mg : Str → Option Value} {base : Heap}
theorem scRit : FnScope ["alphabet", "text", "start", "found", "end"] ["alphabet", "text", "start"] (defScope sReadItem) := ⟨rfl, rfl, rfl, by decide +kernel, rfl, by decide +kernel, by decide +kernel⟩
theorem ok_rit {e : Nat} {O : Str → LP} (he : 9 ≤ e) (D : Df K mg "read_item" sReadItem ["alphabet", "text", "start"]) (L : DfLa K mg) (me : mg "len" = none) (cP : ∃ t, mg "POSTFIX_OPERATORS" = some (.str "*+?" t))
    (Ds : Df K mg "star" sStar ["language"]) (Gs : FnOk P w K mg base CX0 9 Ds.f Ds.fd ["language"] (spStrN K L.C))
    (Do : Df K mg "read_operand" sReadOperand ["alphabet", "text", "start"]) (Go : FnOk P w K mg base CX0 e Do.f Do.fd ["alphabet", "text", "start"] (spRead K L.C O fun _ => True)) : FnOk P w K mg base CX0 (e + 1) D.f D.fd ["alphabet", "text", "start"] (spRead K L.C (fun z => ItP (O z)) FIt) := by
  have mP : ∃ u, mg "POSTFIX_OPERATORS" = some u ∧ RelV (.str "*+?") u := by
    obtain ⟨t, e⟩ := cP
    exact ⟨_, e, t, rfl⟩
  refine D.F.ok scRit (fun vs H Q E h => ?_) (fun cdv A outer s H vs Q E hr h => ?_)
  · obtain ⟨z, x, i, t, rest, W, n, l, rfl, _⟩ := h
    rfl
  · obtain ⟨z, x, i, t, rest, W, n, l, rfl, hx, xl, al, hG, hF, k⟩ := h
    have hr9 : Room 9 _ := hr.mono (by omega)
    have hro : Room e _ := hr.mono (by omega)
    refine ⟨_, PSs.nox (pss_cons (ps_asg (pe_call Go hro (by rfl) Do.g Do.F.kp Do.b .nil pass0 (pa_cons (pv 0) (pa_cons (pv 1) (pa_cons (pv 2) pa_nil)))) (pg_tup rfl (pgs_cons (pg_name (i := 3) scRit.nd rfl (.inl rfl)) (pgs_cons (pg_name (i := 4) scRit.nd rfl (.inl rfl)) pgs_nil)))) (pss_cons (ps_while PassesOwn.never (pw_and (pt_cmpR op_lt (pv 4) (pe_callB call_len_str (by rfl) me PySem.boot_len (pa_cons (pv 1) pa_nil)) (nomark _)) (pw_and1 (pt_cmpR op_in_sign (pe_ix ix_str (pv 1) (pv 4) (fun _ _ => rfl)) (C8.pe_gc (by rfl) mP) rfl))).pt (C8.pss_cut (ps_if (pt_cmpR op_ne (pe_ix ix_str (pv 1) (pv 4) (fun _ _ => rfl)) pe_str (nomark _)) (pss_one (ps_set (i := 3) scRit.nd rfl (.inl rfl) (pe_call Gs hr9 (by rfl) Ds.g Ds.F.kp Ds.b .nil pass0 (pa_cons (pv 3) pa_nil)))) pss_nil) (pss_one (ps_aug (i := 4) scRit.nd rfl (.inl rfl) pe_int ip_add)))) (pss_one (ps_ret (pe_tup (pa_cons (pv 3) (pa_cons (pv 4) pa_nil))))))), ?_⟩
    obtain ⟨o, ps, Y, m, j, ho, hp, rfl⟩ := hG
    have szx : x.length = (tl x).length := (Array.length_toList).symm
    have sl := sizeLine_eq
    refine ⟨.str z, rfl, .str x, rfl, .int (i : Int), rfl, z, x, i, o, ps ++ rest, Y, m, j, rfl, by rw [hx, List.append_assoc], xl, al, ho, trivial, fun H1 T p zs s1 hT lp cp wp => ?_⟩
    refine ⟨T, _, rfl, hT, rfl, _, _, rfl, _, _, rfl, rfl, ?_⟩
    refine ⟨fun b σ' H' => ∃ (p : Addr) (zs : List (List Fc)) (qs : List Nat) (Y : List Nat → Prop) (m j e : Nat), σ' = [some (.str z), some (.str x), some (.int (i : Int)), some (.ref p), some (.int (e : Int))] ∧ (tl x).drop e = qs ++ rest ∧ e + qs.length = i + (o ++ ps).length ∧ Posts Y m j qs W n l ∧ LaNew K L.C H H' p z zs ∧ Cl z zs m j ∧ (∀ u, Ha zs u ↔ Y u) ∧ Same H H' ∧ b = qs.length, ⟨_, p, zs, ps, Y, m, j, i + o.length, rfl, ?_, ?_, hp, lp, cp, wp, s1, rfl⟩, ?_⟩
    · rw [← List.drop_drop, hx]
      rw [List.append_assoc, List.drop_left]
    · rw [List.length_append]
      omega
    rintro b σ' H2 ⟨p, zs, qs, Y, m, j, e, rfl, hx2, he2, hp2, lp, cp, wp, s2, rfl⟩
    have done_ : qs = [] → ∀ {M : Hp}, Same H2 M → tTup (tCons (tVar 3) (tCons (tVar 4) tNil)) [some (.str z), some (.str x), some (.int (i : Int)), some (.ref p), some (.int (e : Int))] M (fun v H' => Q v H') := fun eq {M} sm => by
      subst eq
      cases hp2
      refine ⟨.ref p, rfl, _, rfl, by show 2 ≤ sizeLine; decide, fun T2 hT2 => ?_⟩
      have s4 := same_upd (o := .tup [V.ref p, V.int (e : Int)]) hT2
      refine k _ T2 p zs ((s2.trans sm).trans s4) ?_ ((lp.post sm).post s4) cp wp
      rw [← he2]
      exact SqT.of upd_same
    have tP : tl ("*+?" : Str) = [42, 43, 63] := by decide +kernel
    refine ⟨.int (e : Int), rfl, .str x, rfl, x, rfl, by omega, _, _, rfl, rfl, _, rfl, ite2 (fun lt => ?_) (fun ge => ?_)⟩
    · have lt : e < (tl x).length := by
        have := of_decide_eq_true lt
        omega
      obtain ⟨c, hc⟩ : ∃ c, (tl x)[e]? = some c := ⟨_, List.getElem?_eq_getElem lt⟩
      have hd : (tl x).drop e = c :: (tl x).drop (e + 1) := by
        rw [List.drop_eq_getElem_cons lt]
        congr 1
        rw [List.getElem?_eq_getElem lt] at hc
        exact Option.some.inj hc
      refine ⟨.str x, rfl, .int (e : Int), rfl, x, _, c, rfl, rfl, by omega, at_cp rfl hc, c, _, rfl, rfl, _, rfl, ?_⟩
      cases hp2' : qs with
      | nil =>
        have hr := hF c ((tl x).drop (e + 1)) (by rw [← hd, hx2, hp2']; rfl)
        rw [show decide (c ∈ tl ("*+?" : Str)) = false from decide_eq_false (by rw [tP]; simp; omega)]
        exact iteF (done_ hp2' (Same.refl _))
      | cons q qs' =>
        rw [hp2'] at hx2 he2 hp2
        have eq := hd.symm.trans hx2
        have ec : c = q := (List.cons.inj eq).1
        have er : (tl x).drop (e + 1) = qs' ++ rest := (List.cons.inj eq).2
        subst ec
        rw [List.length_cons] at he2
        have yes_ : c = 63 ∨ c = 42 ∨ c = 43 := by
          cases hp2 with
          | opt _ => exact .inl rfl
          | star h _ _ => exact .inr h
        rw [show decide (c ∈ tl ("*+?" : Str)) = true from decide_eq_true (by rw [tP]; simp; omega)]
        refine iteT ⟨fun σ' H' => ∃ (p : Addr) (zs : List (List Fc)) (Y : List Nat → Prop) (m j : Nat), σ' = [some (.str z), some (.str x), some (.int (i : Int)), some (.ref p), some (.int ((e + 1 : Nat) : Int))] ∧ Posts Y m j qs' W n l ∧ LaNew K L.C H H' p z zs ∧ Cl z zs m j ∧ (∀ u, Ha zs u ↔ Y u) ∧ Same H2 H', ?_, ?_⟩
        · rintro σ' H' ⟨p, zs, Y, m, j, rfl, a1, a2, a3, a4, a5⟩
          exact ⟨qs'.length, Nat.lt_succ_self _, p, zs, qs', Y, m, j, e + 1, rfl, er, by omega, a1, a2, a3, a4, s2.trans a5, rfl⟩
        have ne1 : ∀ d : Nat, d ≠ 63 → decide (V.str (⟨#[d]⟩ : Str) = V.str "?") = false := fun d h => decide_eq_false fun e => h (by
          have := congrArg tl (V.str.inj e)
          exact (List.cons.inj this).1)
        refine ⟨fun σ' H' => ∃ (p : Addr) (zs : List (List Fc)) (Y : List Nat → Prop) (m j : Nat), σ' = [some (.str z), some (.str x), some (.int (i : Int)), some (.ref p), some (.int (e : Int))] ∧ Posts Y m j qs' W n l ∧ LaNew K L.C H H' p z zs ∧ Cl z zs m j ∧ (∀ u, Ha zs u ↔ Y u) ∧ Same H2 H', ?_, ?_⟩
        · refine ⟨.str x, rfl, .int (e : Int), rfl, x, _, c, rfl, rfl, by omega, at_cp rfl hc, rfl, _, rfl, ?_⟩
          cases hp2 with
          | opt r =>
            rw [show decide (V.str (⟨#[63]⟩ : Str) = V.str "?") = true from decide_eq_true rfl]
            exact iteF ⟨p, zs, Y, m, j, rfl, r, lp, cp, wp, Same.refl _⟩
          | star h hb r =>
            rw [ne1 c (by omega)]
            refine iteT ⟨.ref p, rfl, p, z, zs, m, j, rfl, lp.at, al, cp, hb, fun M v ws sv lv cv hv => ?_⟩
            exact ⟨v, ws, WStar Y, 1, 1, rfl, r, lv.pre s2, cv, fun u => (hv u).trans (forall_congr' fun c => imp_congr_right fun _ => wp [c]), sv⟩
        rintro σ' H3 ⟨p, zs, Y, m, j, rfl, a1, a2, a3, a4, a5⟩
        exact ⟨_, rfl, _, _, rfl, rfl, p, zs, Y, m, j, rfl, a1, a2, a3, a4, a5⟩
    · have ge : ¬ e < (tl x).length := fun h => ge (decide_eq_true (by omega))
      have hd : (tl x).drop e = [] := List.drop_eq_nil_of_le (by omega)
      rw [hd] at hx2
      have eq := (List.append_eq_nil_iff.mp hx2.symm).1
      exact iteF (done_ eq (Same.refl _))
end
end DW
/-! check_products (within the limit), read_alternative -/
namespace DW
open PySem PySem.Spec PyProof.Rows L2 TL
set_option autoImplicit false
/-- what stands behind an alternative -/
def FAl (r : List Nat) : Prop := ∀ c r', r = c :: r' → c = 124 ∨ c = 41
def spChp (K : PySem.W.Frag) (C : Addr) : Sp := fun vs H Q _ => ∃ (p : Addr) (z : Str) (zs : List (List Fc)) (m : Int), vs = [.ref p, .int m] ∧ LaAt K C H p z zs ∧ (zs.length : Int) ≤ m ∧ ∀ H', Same H H' → Q .non H'
theorem Cats.inv {I : LP} {Y W : List Nat → Prop} {m j n l : Nat} {qs : List Nat} (h : Cats I Y m j qs W n l) : (qs = [] ∧ Y = W ∧ m = n ∧ j = l) ∨ ∃ s t V m' k, I s V m' k ∧ m * m' ≤ 50 ∧ Cats I (WCat Y V) (m * m') (j + k) t W n l ∧ qs = s ++ t := by
  cases h with
  | nil => exact .inl ⟨rfl, rfl, rfl, rfl⟩
  | cons h f r => exact .inr ⟨_, _, _, _, _, h, f, r, rfl⟩
section
variable {K : PySem.W.Frag} {C : Addr} {H : Hp} {Q : VK} {E : XK} {z : Str} {x y : Addr} {A B : List (List Fc)} {n l m k : Nat}
theorem cat_goN (al : Alph z) (lx : LaAt K C H x z A) (ly : LaAt K C H y z B) (a : Cl z A n l) (b : Cl z B m k) (hn : n ≤ 1000000) (hm : m ≤ 1000000) (nm : n * m ≤ 10000000) (hl : l ≤ 1000) (hk : k ≤ 1000)
    (go : ∀ H' v ws, Same H H' → LaNew K C H H' v z ws → Cl z ws (n * m) (l + k) → (∀ u, Ha ws u ↔ ∃ u1 u2, u = u1 ++ u2 ∧ Ha A u1 ∧ Ha B u2) → Q (.ref v) H') : spCat K C [.ref x, .ref y] H Q E := by
  have f := Nat.mul_le_mul a.few b.few
  refine ⟨x, y, z, A, B, rfl, lx, ly, al, a.can, b.can, Nat.le_trans a.few hn, Nat.le_trans b.few hm, Nat.le_trans f nm, fun q hq => Nat.le_trans (a.len q hq) hl, fun q hq => Nat.le_trans (b.len q hq) hk, fun H' v ws s new can has fr cnt => ?_⟩
  refine go H' v ws s new ⟨can, Nat.le_trans cnt f, fun r hr => ?_⟩ fun u => (has u).trans ?_
  · obtain ⟨p, hp, q, hq, rfl⟩ := fr r hr
    have h1 := a.len p hp
    have h2 := b.len q hq
    have h3 := red_le (p ++ q)
    rw [List.length_append] at h3
    omega
  · constructor
    · rintro ⟨p, hp, q, hq, lg⟩
      obtain ⟨u1, u2, e, h1, h2⟩ := Lg.split lg
      exact ⟨u1, u2, e, ⟨p, hp, h1⟩, q, hq, h2⟩
    · rintro ⟨u1, u2, rfl, ⟨p, hp, h1⟩, q, hq, h2⟩
      exact ⟨p, hp, q, hq, Lg.app h1 h2⟩
end
section
variable {P : Program} {w : World} {K : PySem.W.Frag} {mg : Str → Option Value} {base : Heap}
theorem scChp : FnScope ["language", "limit"] ["language", "limit"] (defScope sCheckProducts) := ⟨rfl, rfl, rfl, by decide +kernel, rfl, by decide +kernel, by decide +kernel⟩
theorem ok_chp (D : Df K mg "check_products" sCheckProducts ["language", "limit"]) (C : DfC2 K mg) (ml : mg "list" = none) (me : mg "len" = none) : FnOk P w K mg base CX0 2 D.f D.fd ["language", "limit"] (spChp K C.C) := by
  have Gp : FnOk P w K mg base CX0 1 C.p.f C.p.fd ["self"] (spLaP K C.C) := ok_laP C ml
  refine D.F.ok scChp (fun vs H Q E h => ?_) (fun cdv A outer s H vs Q E hr h => ?_)
  · obtain ⟨p, z, zs, m, rfl, _⟩ := h
    rfl
  · obtain ⟨p, z, zs, m, rfl, la, lm, k⟩ := h
    have hr1 : Room 1 _ := hr.mono (by decide)
    refine ⟨_, (pss_one (ps_if (pt_cmpR op_gt (pe_callB call_len_seq (by rfl) me PySem.boot_len (pa_cons (pe_meth0 (pv 0) C.cl C.mtp Gp hr1 C.p.b .nil pass0) pa_nil)) (pv 1) (nomark _)) (pss_one ps_never) pss_nil)), ?_⟩
    obtain ⟨dx, q, ys, h1, h2, h3⟩ := id la
    refine ⟨.ref p, rfl, p, dx, _, rfl, h1, flL_no _ _ (by decide) (by decide), p, z, zs, rfl, la, fun H1 l us s1 nl hl iL => ?_⟩
    have ul := iL.len
    refine ⟨l, us, rfl, .inl (SqL.of hl), .int m, rfl, _, _, rfl, rfl, _, rfl, ?_⟩
    rw [decide_eq_false (by omega)]
    exact iteF (k _ s1)
theorem scRal : FnScope ["alphabet", "text", "start", "found", "end", "item"] ["alphabet", "text", "start"] (defScope sReadAlternative) := ⟨rfl, rfl, rfl, by decide +kernel, rfl, by decide +kernel, by decide +kernel⟩
theorem ok_ral {e : Nat} {I : Str → LP} (hb : ∀ z s W n l, I z s W n l → ∃ c r, s = c :: r ∧ Beg z c) (ho : ∀ z s W n l, I z s W n l → 1 ≤ n ∧ n ≤ 50) (hl : ∀ z s W n l, I z s W n l → l ≤ s.length ∧ 1 ≤ s.length) (he : 10 ≤ e) (D : Df K mg "read_alternative" sReadAlternative ["alphabet", "text", "start"]) (C : DfC2 K mg) (ml : mg "list" = none) (me : mg "len" = none) (cL : ∃ t, mg "CLOSURE_LIMIT" = some (.int 50 t))
    (Dk : Df K mg "concatenation" sConcatenation ["one", "other"]) (Gk : FnOk P w K mg base CX0 10 Dk.f Dk.fd ["one", "other"] (spCat K C.C))
    (Dc : Df K mg "check_products" sCheckProducts ["language", "limit"])
    (Di : Df K mg "read_item" sReadItem ["alphabet", "text", "start"]) (Gi : FnOk P w K mg base CX0 e Di.f Di.fd ["alphabet", "text", "start"] (spRead K C.C I FIt)) : FnOk P w K mg base CX0 (e + 1) D.f D.fd ["alphabet", "text", "start"] (spRead K C.C (fun z => AlP (I z)) FAl) := by
  have Gc : FnOk P w K mg base CX0 2 Dc.f Dc.fd ["language", "limit"] (spChp K C.C) := ok_chp Dc C ml me
  have mL : ∃ u, mg "CLOSURE_LIMIT" = some u ∧ RelV (.int 50) u := by
    obtain ⟨t, e⟩ := cL
    exact ⟨_, e, t, rfl⟩
  refine D.F.ok scRal (fun vs H Q E h => ?_) (fun cdv A outer s H vs Q E hr h => ?_)
  · obtain ⟨z, x, i, t, rest, W, n, l, rfl, _⟩ := h
    rfl
  · obtain ⟨z, x, i, t, rest, W, n, l, rfl, hx, xl, al, hG, hF, k⟩ := h
    have hr2 : Room 2 _ := hr.mono (by omega)
    have hr10 : Room 10 _ := hr.mono (by omega)
    have hri : Room e _ := hr.mono (by omega)
    refine ⟨_, PSs.nox (pss_cons (ps_asg (pe_call Gi hri (by rfl) Di.g Di.F.kp Di.b .nil pass0 (pa_cons (pv 0) (pa_cons (pv 1) (pa_cons (pv 2) pa_nil)))) (pg_tup rfl (pgs_cons (pg_name (i := 3) scRal.nd rfl (.inl rfl)) (pgs_cons (pg_name (i := 4) scRal.nd rfl (.inl rfl)) pgs_nil)))) (pss_cons (ps_while PassesOwn.never (pw_and (pt_cmpR op_lt (pv 4) (pe_callB call_len_str (by rfl) me PySem.boot_len (pa_cons (pv 1) pa_nil)) (nomark _)) (pw_and1 (pt_cmpR op_notIn_sign (pe_ix ix_str (pv 1) (pv 4) (fun _ _ => rfl)) pe_str rfl))).pt (pss_cons (ps_asg (pe_call Gi hri (by rfl) Di.g Di.F.kp Di.b .nil pass0 (pa_cons (pv 0) (pa_cons (pv 1) (pa_cons (pv 4) pa_nil)))) (pg_tup rfl (pgs_cons (pg_name (i := 5) scRal.nd rfl (.inl rfl)) (pgs_cons (pg_name (i := 4) scRal.nd rfl (.inl rfl)) pgs_nil)))) (pss_cons (ps_set (i := 3) scRal.nd rfl (.inl rfl) (pe_call Gk hr10 (by rfl) Dk.g Dk.F.kp Dk.b .nil pass0 (pa_cons (pv 3) (pa_cons (pv 5) pa_nil)))) (pss_one (ps_expr (pe_call Gc hr2 (by rfl) Dc.g Dc.F.kp Dc.b .nil pass0 (pa_cons (pv 3) (pa_cons (C8.pe_gc (by rfl) mL) pa_nil)))))))) (pss_one (ps_ret (pe_tup (pa_cons (pv 3) (pa_cons (pv 4) pa_nil))))))), ?_⟩
    obtain ⟨s1, s2, Y, m, j, h1, h2, rfl⟩ := hG
    have szx : x.length = (tl x).length := (Array.length_toList).symm
    have sl := sizeLine_eq
    -- what stands behind an item here
    have fit : ∀ {qs : List Nat} {Y : List Nat → Prop} {m j : Nat}, Cats (I z) Y m j qs W n l → FIt (qs ++ rest) := fun {qs Y m j} h c r e => by
      cases h with
      | nil =>
        rcases hF c r e with h | h <;> omega
      | cons h _ _ =>
        obtain ⟨d, r', rfl, bd⟩ := hb _ _ _ _ _ h
        have : d = c := (List.cons.inj e).1
        subst this
        have := bd.low al
        omega
    refine ⟨.str z, rfl, .str x, rfl, .int (i : Int), rfl, z, x, i, s1, s2 ++ rest, Y, m, j, rfl, by rw [hx, List.append_assoc], xl, al, h1, fit h2, fun H1 T p zs t1 hT lp cp wp => ?_⟩
    refine ⟨T, _, rfl, hT, rfl, _, _, rfl, _, _, rfl, rfl, ?_⟩
    have o1 := ho _ _ _ _ _ h1
    have l1 := (hl _ _ _ _ _ h1).1
    refine ⟨fun b σ' H' => ∃ (p : Addr) (zs : List (List Fc)) (qs : List Nat) (Y : List Nat → Prop) (m j e : Nat) (y5 : Option V), σ' = [some (.str z), some (.str x), some (.int (i : Int)), some (.ref p), some (.int (e : Int)), y5] ∧ (tl x).drop e = qs ++ rest ∧ e + qs.length = i + (s1 ++ s2).length ∧ Cats (I z) Y m j qs W n l ∧ LaNew K C.C H H' p z zs ∧ Cl z zs m j ∧ (∀ u, Ha zs u ↔ Y u) ∧ Same H H' ∧ 1 ≤ m ∧ m ≤ 50 ∧ i + j ≤ e ∧ b = qs.length, ⟨_, p, zs, s2, Y, m, j, i + s1.length, _, rfl, ?_, ?_, h2, lp, cp, wp, t1, o1.1, o1.2, by omega, rfl⟩, ?_⟩
    · rw [← List.drop_drop, hx, List.append_assoc, List.drop_left]
    · rw [List.length_append]
      omega
    rintro b σ' H2 ⟨p, zs, qs, Y, m, j, e', y5, rfl, hx2, he2, hp2, lp, cp, wp, t2, m1, m50, je, rfl⟩
    have tP : tl ("|)" : Str) = [124, 41] := by decide +kernel
    have done_ : qs = [] → ∀ {M : Hp}, Same H2 M → tTup (tCons (tVar 3) (tCons (tVar 4) tNil)) [some (.str z), some (.str x), some (.int (i : Int)), some (.ref p), some (.int (e' : Int)), y5] M (fun v H' => Q v H') := fun eq {M} sm => by
      subst eq
      rcases hp2.inv with ⟨_, rfl, rfl, rfl⟩ | ⟨s', t', _, _, _, hi, _, _, e9⟩
      case inr =>
        have := (hl _ _ _ _ _ hi).2
        rw [(List.append_eq_nil_iff.mp e9.symm).1] at this
        exact absurd this (by decide)
      refine ⟨.ref p, rfl, _, rfl, by show 2 ≤ sizeLine; decide, fun T2 hT2 => ?_⟩
      have s4 := same_upd (o := .tup [V.ref p, V.int (e' : Int)]) hT2
      refine k _ T2 p zs ((t2.trans sm).trans s4) ?_ ((lp.post sm).post s4) cp wp
      rw [← he2]
      exact SqT.of upd_same
    refine ⟨.int (e' : Int), rfl, .str x, rfl, x, rfl, by omega, _, _, rfl, rfl, _, rfl, ite2 (fun lt => ?_) (fun ge => ?_)⟩
    · have lt : e' < (tl x).length := by
        have := of_decide_eq_true lt
        omega
      obtain ⟨c, hc⟩ : ∃ c, (tl x)[e']? = some c := ⟨_, List.getElem?_eq_getElem lt⟩
      have hd : (tl x).drop e' = c :: (tl x).drop (e' + 1) := by
        rw [List.drop_eq_getElem_cons lt]
        congr 1
        rw [List.getElem?_eq_getElem lt] at hc
        exact Option.some.inj hc
      refine ⟨.str x, rfl, .int (e' : Int), rfl, x, _, c, rfl, rfl, by omega, at_cp rfl hc, c, _, rfl, rfl, _, rfl, ?_⟩
      rcases hp2.inv with ⟨eq, _⟩ | ⟨s', t', V', m', k', hi, f50, hp3, eq⟩
      · have hr := hF c ((tl x).drop (e' + 1)) (by rw [← hd, hx2, eq]; rfl)
        rw [show decide (c ∈ tl ("|)" : Str)) = true from decide_eq_true (by rw [tP]; simp; omega)]
        exact iteF (done_ eq (Same.refl _))
      · obtain ⟨d, r', es, bd⟩ := hb _ _ _ _ _ hi
        have ed : d = c := by
          rw [hx2, eq, es] at hd
          exact (List.cons.inj hd).1
        subst ed
        have := bd.low al
        rw [show decide (d ∈ tl ("|)" : Str)) = false from decide_eq_false (by rw [tP]; simp; omega)]
        refine iteT ⟨fun σ' H' => ∃ (p : Addr) (zs : List (List Fc)) (y5 : Option V), σ' = [some (.str z), some (.str x), some (.int (i : Int)), some (.ref p), some (.int ((e' + s'.length : Nat) : Int)), y5] ∧ LaNew K C.C H H' p z zs ∧ Cl z zs (m * m') (j + k') ∧ (∀ u, Ha zs u ↔ WCat Y V' u) ∧ Same H2 H', ?_, ?_⟩
        · have lk := hl _ _ _ _ _ hi
          have ok_ := ho _ _ _ _ _ hi
          rintro σ' H' ⟨p, zs, y5, rfl, a2, a3, a4, a5⟩
          refine ⟨t'.length, ?_, p, zs, t', WCat Y V', m * m', j + k', e' + s'.length, y5, rfl, ?_, ?_, hp3, a2, a3, a4, t2.trans a5, Nat.mul_pos m1 ok_.1, f50, by omega, rfl⟩
          · rw [eq, List.length_append]
            omega
          · rw [← List.drop_drop, hx2, eq, List.append_assoc, List.drop_left]
          · rw [eq, List.length_append] at he2
            omega
        have lk := (hl _ _ _ _ _ hi).1
        have ls1 := congrArg List.length hx2
        rw [List.length_drop, List.length_append, eq, List.length_append] at ls1
        have ok_ := ho _ _ _ _ _ hi
        refine ⟨.str z, rfl, .str x, rfl, .int (e' : Int), rfl, z, x, e', s', t' ++ rest, V', m', k', rfl, by rw [hx2, eq, List.append_assoc], xl, al, hi, fit hp3, fun M1 T p' zs' u1 hT lp' cp' wp' => ?_⟩
        refine ⟨T, _, rfl, hT, rfl, _, _, rfl, _, _, rfl, rfl, ?_⟩
        refine ⟨.ref p, rfl, .ref p', rfl, nilI (cat_goN al (lp.at.same u1) lp'.at cp cp' (by omega) (by omega) (by omega) (by omega) (by omega) fun M2 v ws u2 lv cv hv => ?_)⟩
        refine ⟨.ref v, rfl, v, z, ws, 50, rfl, lv.at, by have := cv.few; omega, fun M3 u3 => ?_⟩
        exact ⟨v, ws, _, rfl, (lv.pre (t2.trans u1)).post u3, cv, fun u => (hv u).trans (exists_congr fun u1 => exists_congr fun u2 => and_congr_right fun _ => and_congr (wp u1) (wp' u2)), u1.trans (u2.trans u3)⟩
    · have ge : ¬ e' < (tl x).length := fun h => ge (decide_eq_true (by omega))
      have hd : (tl x).drop e' = [] := List.drop_eq_nil_of_le (by omega)
      rw [hd] at hx2
      have eq := (List.append_eq_nil_iff.mp hx2.symm).1
      exact iteF (done_ eq (Same.refl _))
end
end DW
/-! union_of_all: the new Language is fresh; read_choice -/
namespace DW
open PySem PySem.Spec PyProof.Rows L2 TL
set_option autoImplicit false
def spUallN (K : PySem.W.Frag) (C : Addr) : Sp := fun vs H Q _ => ∃ (a : Addr) (z : Str) (xs : List V) (zss : List (List (List Fc))), vs = [.str z, .ref a] ∧ SqL K H a xs ∧ IsLas K C H xs zss ∧ Alph z ∧ zss.flatten.length ≤ 1000000 ∧ (∀ p ∈ zss.flatten, p.length ≤ 10000 ∧ ∀ f ∈ p, FOk z f) ∧
  ∀ H' p zs, Same H H' → LaNew K C H H' p z zs → MaxOf zss.flatten zs → Q (.ref p) H'
/-- Languages in a list, none of which is kept in that list -/
inductive IsLs (K : PySem.W.Frag) (C : Addr) (H : Hp) (L : Addr) (z : Str) : List V → List (List (List Fc)) → Prop where
  | nil : IsLs K C H L z [] []
  | cons {p dx q : Addr} {ys : List V} {zs : List (List Fc)} {vs : List V} {zss : List (List (List Fc))} (h1 : H p = some (.ins C dx (flL z q))) (h2 : H q = some (.lst ys)) (h3 : IsL K H ys zs) (n1 : p ≠ L) (n2 : q ≠ L) (r : IsLs K C H L z vs zss) : IsLs K C H L z (.ref p :: vs) (zs :: zss)
section
variable {K : PySem.W.Frag} {C : Addr} {H H' : Hp} {L : Addr} {z : Str}
theorem IsLs.las : ∀ {vs : List V} {zss : List (List (List Fc))}, IsLs K C H L z vs zss → IsLas K C H vs zss
  | _, _, .nil => .nil
  | _, _, .cons h1 h2 h3 _ _ r => .cons (z := z) ⟨_, _, _, h1, h2, h3⟩ r.las
theorem IsLs.same (s : Same H H') : ∀ {vs : List V} {zss : List (List (List Fc))}, IsLs K C H L z vs zss → IsLs K C H' L z vs zss
  | _, _, .nil => .nil
  | _, _, .cons h1 h2 h3 n1 n2 r => .cons (s _ _ h1) (s _ _ h2) (h3.mono (same_tup s)) n1 n2 (r.same s)
theorem IsLs.put {us ws : List V} (g : H L = some (.lst us)) : ∀ {vs : List V} {zss : List (List (List Fc))}, IsLs K C H L z vs zss → IsLs K C (upd H L (.lst ws)) L z vs zss
  | _, _, .nil => .nil
  | _, _, .cons h1 h2 h3 n1 n2 r => .cons ((upd_ne n1).trans h1) ((upd_ne n2).trans h2) (h3.mono fun b xs hb => upd_lst g b xs hb) n1 n2 (r.put g)
theorem IsLs.snoc {p : Addr} {zs : List (List Fc)} (h : ∃ dx q ys, H p = some (.ins C dx (flL z q)) ∧ H q = some (.lst ys) ∧ IsL K H ys zs ∧ p ≠ L ∧ q ≠ L) : ∀ {vs : List V} {zss : List (List (List Fc))}, IsLs K C H L z vs zss → IsLs K C H L z (vs ++ [.ref p]) (zss ++ [zs])
  | _, _, .nil => by
    obtain ⟨_, _, _, h1, h2, h3, n1, n2⟩ := h
    exact .cons h1 h2 h3 n1 n2 .nil
  | _, _, .cons h1 h2 h3 n1 n2 r => .cons h1 h2 h3 n1 n2 (r.snoc h)
end
theorem Alts.inv {A : LP} {qs : List Nat} {Ls : List ((List Nat → Prop) × Nat × Nat)} (h : Alts A qs Ls) : (qs = [] ∧ Ls = []) ∨ ∃ s t V m k Ls', A s V m k ∧ Alts A t Ls' ∧ qs = 124 :: (s ++ t) ∧ Ls = (V, m, k) :: Ls' := by
  cases h with
  | nil => exact .inl ⟨rfl, rfl⟩
  | cons h r => exact .inr ⟨_, _, _, _, _, _, h, r, rfl, rfl⟩
/-- what stands behind a choice -/
def FCh (r : List Nat) : Prop := ∀ c r', r = c :: r' → c = 41
section
variable {P : Program} {w : World} {K : PySem.W.Frag} {mg : Str → Option Value} {base : Heap}
theorem ok_uallN (D : Df K mg "union_of_all" sUnionOfAll ["alphabet", "languages"]) (L : DfLa K mg) (C : DfC2 K mg) (eC : L.C = C.C) : FnOk P w K mg base CX0 9 D.f D.fd ["alphabet", "languages"] (spUallN K L.C) := by
  have GI : FnOk P w K mg base CX0 7 L.i.f L.i.fd ["self", "alphabet", "products"] (spLi K L.C) := ok_li L
  have Gp : FnOk P w K mg base CX0 1 C.p.f C.p.fd ["self"] (spLaP K C.C) := ok_laP C L.mli
  refine D.F.ok scUall (fun vs H Q E h => ?_) (fun cdv A outer s H vs Q E hr h => ?_)
  · obtain ⟨a, z, xs, zss, rfl, _⟩ := h
    rfl
  · obtain ⟨a, z, xs, zss, rfl, ha, iA, al, wl, hw, k⟩ := h
    have hr1 : Room 1 _ := hr.mono (by decide)
    have xl := iA.len
    refine ⟨_, (pss_one (ps_ret (pe_make L.mkr GI hr (by rfl) L.g L.i.b .nil pass0 (pa_cons (pv 0) (pa_cons (pe_lc2 (own := [("language", 2), ("product", 3)]) (vs1 := [3]) (g := gName 2) (g1 := gName 3) (wi1 := iList K (tMeth C.C "products" (spLaP K C.C) [] E0 (tVar 2) tNil)) (te := tVar 3) rfl scUall.nd (pi_list (pv 1)) (blkOk_by (N := ["alphabet", "languages", "language", "product"]) (sc := defScope sUnionOfAll) (by decide +kernel)) (by decide) (fun _ _ _ _ _ => pg_name (i := 2) scUall.nd rfl (Or.inl rfl)) (fun _ _ _ _ _ => pts_nil) (fun _ _ _ _ _ => pi_list (pe_meth0 (pv 2) C.cl C.mtp Gp hr1 C.p.b .nil pass0)) (fun _ _ _ _ _ => pg_name (i := 3) scUall.nd rfl (Or.inl rfl)) (fun _ _ _ _ _ => pts_nil) (fun _ _ _ _ _ => pv 3)) pa_nil))))), ?_⟩
    refine ⟨.str z, rfl, .ref a, rfl, a, rfl, ⟨_, ha⟩, fun L0 hL => ?_⟩
    refine lc2_it (walk_list (xs := xs)) (fun i H' => ∃ us, H' L0 = some (.lst us) ∧ IsL K H' us (zss.take i).flatten ∧ Same H H') ⟨[], upd_same, .nil, same_upd hL⟩ (fun _ _ _ ⟨_, _, _, sm⟩ => same_lst sm ha) ?_ ?_
    · rintro i x G G' hi ⟨us, gL, iL, sm⟩ ⟨rfl, hx⟩
      obtain ⟨p, z', zs, rfl, hz, la⟩ := iA.get i x hx
      rw [eC] at la
      obtain ⟨dx, q, ys, h1, h2, h3⟩ := id (la.same sm)
      refine ⟨rfl, yes ?_⟩
      refine ⟨.ref p, rfl, p, dx, _, rfl, h1, flL_no _ _ (by decide) (by decide), p, z', zs, rfl, la.same sm, fun F1 l vs1 s1 nl hl iV => ?_⟩
      have vl := iV.len
      have sm1 := sm.trans s1
      have gL1 := s1 _ _ gL
      have nlL : l ≠ L0 := fun e => by rw [e] at nl; rw [nl] at gL; cases gL
      refine ⟨l, rfl, ⟨_, SqL.of hl⟩, ?_⟩
      refine inn_it (walk_list (xs := vs1)) (fun j H' => ∃ us, H' L0 = some (.lst us) ∧ IsL K H' us ((zss.take i).flatten ++ zs.take j) ∧ IsL K H' vs1 zs ∧ H' l = some (.lst vs1) ∧ Same H H') ⟨us, gL1, by rw [List.take_zero, List.append_nil]; exact iL.mono (same_tup s1), iV, hl, sm1⟩ (fun _ _ _ ⟨_, _, _, _, hl', _⟩ => SqL.of hl') ?_ ?_
      · rintro j y F F' hj ⟨us', gL', iL', iV', hl', sm'⟩ ⟨rfl, hy⟩
        obtain ⟨f, hf, isf⟩ := iV'.get j y hy
        have nt : ∀ b ws, SqT K F' b ws → SqT K (upd F' L0 (.lst (us' ++ [y]))) b ws := fun b ws hb => upd_lst gL' b ws hb
        refine ⟨rfl, yes ⟨_, rfl, _, gL', ?_, _, upd_same, ?_, iV'.mono nt, (upd_ne nlL).trans hl', fun b o e => (upd_ne (ne_of_none e hL)).trans (sm' _ _ e)⟩⟩
        · have := iL'.len
          have l2 := las_len zss (i + 1)
          rw [las_take hz, List.length_append] at l2
          rw [this, List.length_append, List.length_take, sizeLine_eq]
          omega
        · rw [List.take_add_one, hf, ← List.append_assoc]
          exact (iL'.mono nt).app (.cons (isf.mono nt) .nil)
      · rintro F ⟨us', gL', iL', iV', hl', sm'⟩
        rw [vl, List.take_length, ← las_take hz] at iL'
        exact ⟨us', gL', iL', sm'⟩
    · rintro G ⟨us, gL, iL, sm⟩
      rw [xl, List.take_length] at iL
      exact new_lang gL iL al wl (fun q hq => (hw q hq).2) (fun q hq => (hw q hq).1) fun H' x zs sG new mo => k H' x zs (sm.trans sG) (new.pre sm) mo
theorem scRch : FnScope ["alphabet", "text", "start", "found", "end", "alternatives", "choice"] ["alphabet", "text", "start"] (defScope sReadChoice) := ⟨rfl, rfl, rfl, by decide +kernel, rfl, by decide +kernel, by decide +kernel⟩
theorem ok_rch {e : Nat} {A : Str → LP} (ho : ∀ z s W n l, A z s W n l → 1 ≤ n ∧ n ≤ 50) (hl : ∀ z s W n l, A z s W n l → l ≤ s.length ∧ 1 ≤ s.length) (he : 10 ≤ e) (D : Df K mg "read_choice" sReadChoice ["alphabet", "text", "start"]) (L : DfLa K mg) (C : DfC2 K mg) (eC : L.C = C.C) (me : mg "len" = none) (cL : ∃ t, mg "CLOSURE_LIMIT" = some (.int 50 t))
    (Du : Df K mg "union_of_all" sUnionOfAll ["alphabet", "languages"])
    (Dc : Df K mg "check_products" sCheckProducts ["language", "limit"])
    (Da : Df K mg "read_alternative" sReadAlternative ["alphabet", "text", "start"]) (Ga : FnOk P w K mg base CX0 e Da.f Da.fd ["alphabet", "text", "start"] (spRead K C.C A FAl)) : FnOk P w K mg base CX0 (e + 1) D.f D.fd ["alphabet", "text", "start"] (spRead K C.C (fun z => ChP (A z)) FCh) := by
  have Gc : FnOk P w K mg base CX0 2 Dc.f Dc.fd ["language", "limit"] (spChp K C.C) := ok_chp Dc C L.mli me
  have Gu : FnOk P w K mg base CX0 9 Du.f Du.fd ["alphabet", "languages"] (spUallN K L.C) := ok_uallN Du L C eC
  have mL : ∃ u, mg "CLOSURE_LIMIT" = some u ∧ RelV (.int 50) u := by
    obtain ⟨t, e⟩ := cL
    exact ⟨_, e, t, rfl⟩
  refine D.F.ok scRch (fun vs H Q E h => ?_) (fun cdv A' outer s H vs Q E hr h => ?_)
  · obtain ⟨z, x, i, t, rest, W, n, l, rfl, _⟩ := h
    rfl
  · obtain ⟨z, x, i, t, rest, W, n, l, rfl, hx, xl, al, hG, hF, k⟩ := h
    have hr2 : Room 2 _ := hr.mono (by omega)
    have hr9 : Room 9 _ := hr.mono (by omega)
    have hra : Room e _ := hr.mono (by omega)
    refine ⟨_, PSs.nox (pss_cons (ps_asg (pe_call Ga hra (by rfl) Da.g Da.F.kp Da.b .nil pass0 (pa_cons (pv 0) (pa_cons (pv 1) (pa_cons (pv 2) pa_nil)))) (pg_tup rfl (pgs_cons (pg_name (i := 3) scRch.nd rfl (.inl rfl)) (pgs_cons (pg_name (i := 4) scRch.nd rfl (.inl rfl)) pgs_nil)))) (pss_cons (ps_set (i := 5) scRch.nd rfl (.inl rfl) (pe_lst (pa_cons (pv 3) pa_nil))) (pss_cons (ps_while PassesOwn.never (pw_and (pt_cmpR op_lt (pv 4) (pe_callB call_len_str (by rfl) me PySem.boot_len (pa_cons (pv 1) pa_nil)) (nomark _)) (pw_and1 (pt_cmpR op_eq (pe_ix ix_str (pv 1) (pv 4) (fun _ _ => rfl)) pe_str (nomark _)))).pt (pss_cons (ps_asg (pe_call Ga hra (by rfl) Da.g Da.F.kp Da.b .nil pass0 (pa_cons (pv 0) (pa_cons (pv 1) (pa_cons (pe_op op_add (pv 4) pe_int) pa_nil)))) (pg_tup rfl (pgs_cons (pg_name (i := 3) scRch.nd rfl (.inl rfl)) (pgs_cons (pg_name (i := 4) scRch.nd rfl (.inl rfl)) pgs_nil)))) (pss_one (ps_expr (pe_bm PySem.F.plainAttrs_list PySem.F.slot_list_append PySem.F.type_list_append mt_append (pv 5) (pa_cons (pv 3) pa_nil)))))) (pss_cons (ps_set (i := 6) scRch.nd rfl (.inl rfl) (pe_call Gu hr9 (by rfl) Du.g Du.F.kp Du.b .nil pass0 (pa_cons (pv 0) (pa_cons (pv 5) pa_nil)))) (pss_cons (ps_expr (pe_call Gc hr2 (by rfl) Dc.g Dc.F.kp Dc.b .nil pass0 (pa_cons (pv 6) (pa_cons (C8.pe_gc (by rfl) mL) pa_nil)))) (pss_one (ps_ret (pe_tup (pa_cons (pv 6) (pa_cons (pv 4) pa_nil)))))))))), ?_⟩
    obtain ⟨s1, s2, Y, m, j, Ls, h1, h2, rfl, en, n50, elv, hW⟩ := hG
    have szx : x.length = (tl x).length := (Array.length_toList).symm
    have sl := sizeLine_eq
    have fal : ∀ {qs : List Nat} {Ls : List ((List Nat → Prop) × Nat × Nat)}, Alts (A z) qs Ls → FAl (qs ++ rest) := fun {qs Ls} h c r e => by
      rcases h.inv with ⟨rfl, _⟩ | ⟨_, _, _, _, _, _, _, _, rfl, _⟩
      · exact .inr (hF c r e)
      · exact .inl (List.cons.inj e).1.symm
    refine ⟨.str z, rfl, .str x, rfl, .int (i : Int), rfl, z, x, i, s1, s2 ++ rest, Y, m, j, rfl, by rw [hx, List.append_assoc], xl, al, h1, fal h2, fun H1 T p zs t1 hT lp cp wp => ?_⟩
    refine ⟨T, _, rfl, hT, rfl, _, _, rfl, _, _, rfl, rfl, ?_⟩
    refine ⟨.ref p, rfl, by show 1 ≤ sizeLine; decide, fun La hLa => ?_⟩
    have sA := same_upd (o := .lst [V.ref p]) hLa
    have gA : (upd H1 La (.lst [V.ref p])) La = some (.lst [V.ref p]) := upd_same
    have lA : IsLs K C.C (upd H1 La (.lst [V.ref p])) La z [.ref p] [zs] := by
      obtain ⟨dx, q, ys, g1, g2, g3⟩ := id lp.at
      exact .cons (sA _ _ g1) (sA _ _ g2) (g3.mono (same_tup sA)) (ne_of_none g1 hLa) (ne_of_none g2 hLa) .nil
    have hLa0 : H La = none := t1.free hLa
    have tA := t1.trans sA
    generalize upd H1 La (.lst [V.ref p]) = H2 at sA gA lA tA ⊢
    have one_ := (hl _ _ _ _ _ h1).2
    have tot : i + (s1 ++ s2).length ≤ 60 ∨ (tl x).drop i = [] := by
      by_cases c : i < (tl x).length
      · left
        have := congrArg List.length hx
        rw [List.length_drop, List.length_append] at this
        omega
      · exact .inr (List.drop_eq_nil_of_le (by omega))
    have tot : i + (s1 ++ s2).length ≤ 60 := by
      rcases tot with h | h
      · exact h
      · rw [h] at hx
        have := congrArg List.length hx
        rw [List.length_append, List.length_append, List.length_nil] at this
        omega
    refine ⟨fun b σ' H' => ∃ (p' : V) (vs : List V) (zss : List (List (List Fc))) (qs : List Nat) (Ls' : List ((List Nat → Prop) × Nat × Nat)) (D : List Nat → Prop) (e n0 l0 : Nat), σ' = [some (.str z), some (.str x), some (.int (i : Int)), some p', some (.int (e : Int)), some (.ref La), none] ∧ (tl x).drop e = qs ++ rest ∧ e + qs.length = i + (s1 ++ s2).length ∧ Alts (A z) qs Ls' ∧ H' La = some (.lst vs) ∧ IsLs K C.C H' La z vs zss ∧ zss.flatten.length ≤ n0 ∧ (∀ q ∈ zss.flatten, q.length ≤ l0 ∧ ∀ f ∈ q, FOk z f) ∧ (∀ u, Ha zss.flatten u ↔ D u) ∧ n = n0 + sumN3 Ls' ∧ l = max l0 (maxL3 Ls') ∧ (∀ u, W u ↔ D u ∨ ∃ x ∈ Ls', x.1 u) ∧ Same H H' ∧ vs.length ≤ e + 1 ∧ l0 ≤ 60 ∧ b = qs.length, ⟨_, .ref p, [.ref p], [zs], s2, Ls, Y, i + s1.length, m, j, rfl, ?_, ?_, h2, gA, lA, ?_, ?_, ?_, en, elv, hW, tA, by show 1 ≤ _; omega, by have := (hl _ _ _ _ _ h1).1; rw [List.length_append] at tot; omega, rfl⟩, ?_⟩
    · rw [← List.drop_drop, hx, List.append_assoc, List.drop_left]
    · rw [List.length_append]
      omega
    · have := cp.few
      rw [List.flatten_cons, List.flatten_nil, List.append_nil]
      exact this
    · rw [List.flatten_cons, List.flatten_nil, List.append_nil]
      exact fun q hq => ⟨cp.len q hq, cp.ok q hq⟩
    · rw [List.flatten_cons, List.flatten_nil, List.append_nil]
      exact wp
    rintro b σ' H3 ⟨p', vs, zss, qs, Ls', D0, e', n0, l0, rfl, hx3, he3, ha3, gL, lL, f0, ok0, w0, en0, el0, hW0, s3, vl, l60, rfl⟩
    refine ⟨.int (e' : Int), rfl, .str x, rfl, x, rfl, by omega, _, _, rfl, rfl, _, rfl, ite2 (fun lt => ?_) (fun ge => ?_)⟩
    · have lt : e' < (tl x).length := by
        have := of_decide_eq_true lt
        omega
      obtain ⟨c, hc⟩ : ∃ c, (tl x)[e']? = some c := ⟨_, List.getElem?_eq_getElem lt⟩
      have hd : (tl x).drop e' = c :: (tl x).drop (e' + 1) := by
        rw [List.drop_eq_getElem_cons lt]
        congr 1
        rw [List.getElem?_eq_getElem lt] at hc
        exact Option.some.inj hc
      refine ⟨.str x, rfl, .int (e' : Int), rfl, x, _, c, rfl, rfl, by omega, at_cp rfl hc, rfl, _, rfl, ?_⟩
      rcases ha3.inv with ⟨eq, _⟩ | ⟨s', t', V', m', k', Lt, hi, hr', eq, eL⟩
      · have hr := hF c ((tl x).drop (e' + 1)) (by rw [← hd, hx3, eq]; rfl)
        subst hr
        rw [show decide (V.str (⟨#[41]⟩ : Str) = V.str "|") = false from decide_eq_false fun e => by
          have := congrArg tl (V.str.inj e)
          exact absurd (List.cons.inj this).1 (by decide)]
        refine iteF ?_
        rcases ha3.inv with ⟨_, eLs⟩ | ⟨_, _, _, _, _, _, _, _, eq9, _⟩
        case inr => rw [eq] at eq9; cases eq9
        subst eLs
        refine ⟨.str z, rfl, .ref La, rfl, La, z, vs, zss, rfl, SqL.of gL, eC ▸ lL.las, al, by omega, fun q hq => ⟨by have := (ok0 q hq).1; omega, (ok0 q hq).2⟩, fun H4 v ws s4 new mo => ?_⟩
        have cv : Cl z ws n l := Cl.of al mo (fun q hq => (ok0 q hq).2) (by rw [en0]; show _ ≤ n0 + 0; omega) (fun q hq => by have := (ok0 q hq).1; rw [el0]; show _ ≤ max l0 0; omega)
        have wv : ∀ u, Ha ws u ↔ W u := fun u => (Ha.max al mo (fun q hq => (ok0 q hq).2) u).trans ((w0 u).trans ((hW0 u).trans ⟨fun h => h.elim id fun ⟨_, h, _⟩ => (nomatch h), .inl⟩).symm)
        have nv : LaNew K C.C H3 H4 v z ws := eC ▸ new
        refine ⟨.ref v, rfl, v, z, ws, 50, rfl, nv.at, by have := cv.few; omega, fun H5 s5 => ?_⟩
        refine ⟨.ref v, rfl, _, rfl, by show 2 ≤ sizeLine; decide, fun T2 hT2 => ?_⟩
        have s6 := same_upd (o := .tup [V.ref v, V.int (e' : Int)]) hT2
        rw [eq] at he3
        refine k _ T2 v ws ((s3.trans (s4.trans s5)).trans s6) ?_ (((nv.pre s3).post s5).post s6) cv wv
        rw [← he3]
        exact SqT.of upd_same
      · have ed : c = 124 := by
          rw [hx3, eq] at hd
          exact (List.cons.inj hd).1.symm
        subst ed
        rw [show decide (V.str (⟨#[124]⟩ : Str) = V.str "|") = true from decide_eq_true rfl]
        refine iteT ⟨fun σ' H' => ∃ (p' : V) (vs' : List V) (zs' : List (List Fc)), σ' = [some (.str z), some (.str x), some (.int (i : Int)), some p', some (.int ((e' + 1 + s'.length : Nat) : Int)), some (.ref La), none] ∧ H' La = some (.lst vs') ∧ IsLs K C.C H' La z vs' (zss ++ [zs']) ∧ zs'.length ≤ m' ∧ (∀ q ∈ zs', q.length ≤ k' ∧ ∀ f ∈ q, FOk z f) ∧ (∀ u, Ha zs' u ↔ V' u) ∧ Same H H' ∧ vs'.length ≤ e' + 2, ?_, ?_⟩
        · rintro σ' H' ⟨p', vs', zs', rfl, a1, a2, a3, a4, a5, a6, a7⟩
          have lk := hl _ _ _ _ _ hi
          have lq : qs.length = 1 + (s'.length + t'.length) := by rw [eq, List.length_cons, List.length_append]; omega
          refine ⟨t'.length, by omega, p', vs', zss ++ [zs'], t', Lt, fun u => D0 u ∨ V' u, e' + 1 + s'.length, n0 + m', max l0 k', rfl, ?_, by omega, hr', a1, a2, ?_, ?_, ?_, ?_, ?_, ?_, a6, by omega, by omega, rfl⟩
          · rw [show e' + 1 + s'.length = e' + (1 + s'.length) by omega, ← List.drop_drop, hx3, eq]
            rw [← List.drop_drop]
            show ((s' ++ t') ++ rest).drop s'.length = _
            rw [List.append_assoc, List.drop_left]
          · rw [List.flatten_append, List.length_append, List.flatten_cons, List.flatten_nil, List.append_nil]
            omega
          · rw [List.flatten_append, List.flatten_cons, List.flatten_nil, List.append_nil]
            intro q hq
            rcases List.mem_append.mp hq with h | h
            · exact ⟨by have := (ok0 q h).1; omega, (ok0 q h).2⟩
            · exact ⟨by have := (a4 q h).1; omega, (a4 q h).2⟩
          · rw [List.flatten_append, List.flatten_cons, List.flatten_nil, List.append_nil]
            exact fun u => Ha.or.trans (or_congr (w0 u) (a5 u))
          · rw [en0, eL]
            show n0 + (m' + sumN3 Lt) = _
            omega
          · rw [el0, eL]
            show max l0 (max k' (maxL3 Lt)) = _
            omega
          · intro u
            rw [hW0 u, eL]
            constructor
            · rintro (h | ⟨y, hy, h⟩)
              · exact .inl (.inl h)
              · rcases List.mem_cons.mp hy with e | hy
                · rw [e] at h
                  exact .inl (.inr h)
                · exact .inr ⟨y, hy, h⟩
            · rintro ((h | h) | ⟨y, hy, h⟩)
              · exact .inl h
              · exact .inr ⟨_, List.mem_cons_self, h⟩
              · exact .inr ⟨y, List.mem_cons_of_mem _ hy, h⟩
        have hx4 : (tl x).drop (e' + 1) = s' ++ (t' ++ rest) := by
          rw [← List.drop_drop, hx3, eq]
          show (s' ++ t') ++ rest = _
          rw [List.append_assoc]
        refine ⟨.str z, rfl, .str x, rfl, .int (e' : Int), rfl, _, _, rfl, rfl, z, x, e' + 1, s', t' ++ rest, V', m', k', rfl, hx4, xl, al, hi, fal hr', fun M1 T p9 zs9 u1 hT9 lp9 cp9 wp9 => ?_⟩
        refine ⟨T, _, rfl, hT9, rfl, _, _, rfl, _, _, rfl, rfl, ?_⟩
        have gL1 := u1 _ _ gL
        refine ⟨.ref La, rfl, .inl ⟨rfl, _, SqL.of gL1⟩, .ref p9, rfl, La, vs, _, rfl, rfl, gL1, by rw [sizeLine_eq]; omega, _, _, zs9, rfl, upd_same, ?_, cp9.few, fun q hq => ⟨cp9.len q hq, cp9.ok q hq⟩, wp9, fun c o h => (upd_ne (ne_of_none h hLa0)).trans ((s3.trans u1) _ _ h), by rw [List.length_append]; show vs.length + 1 ≤ _; omega⟩
        refine (((lL.same u1).snoc ?_).put gL1)
        obtain ⟨dx, q, ys, g1, g2, g3, g4, g5⟩ := id lp9
        exact ⟨dx, q, ys, g1, g2, g3, (fun e => by rw [e, gL] at g5; cases g5), (fun e => by rw [e, gL] at g4; cases g4)⟩
    · have ge : ¬ e' < (tl x).length := fun h => ge (decide_eq_true (by omega))
      have hd : (tl x).drop e' = [] := List.drop_eq_nil_of_le (by omega)
      rw [hd] at hx3
      have eq := (List.append_eq_nil_iff.mp hx3.symm).1
      refine iteF ?_
      rcases ha3.inv with ⟨_, eLs⟩ | ⟨_, _, _, _, _, _, _, _, eq9, _⟩
      case inr => rw [eq] at eq9; cases eq9
      subst eLs
      refine ⟨.str z, rfl, .ref La, rfl, La, z, vs, zss, rfl, SqL.of gL, eC ▸ lL.las, al, by omega, fun q hq => ⟨by have := (ok0 q hq).1; omega, (ok0 q hq).2⟩, fun H4 v ws s4 new mo => ?_⟩
      have cv : Cl z ws n l := Cl.of al mo (fun q hq => (ok0 q hq).2) (by rw [en0]; show _ ≤ n0 + 0; omega) (fun q hq => by have := (ok0 q hq).1; rw [el0]; show _ ≤ max l0 0; omega)
      have wv : ∀ u, Ha ws u ↔ W u := fun u => (Ha.max al mo (fun q hq => (ok0 q hq).2) u).trans ((w0 u).trans ((hW0 u).trans ⟨fun h => h.elim id fun ⟨_, h, _⟩ => (nomatch h), .inl⟩).symm)
      have nv : LaNew K C.C H3 H4 v z ws := eC ▸ new
      refine ⟨.ref v, rfl, v, z, ws, 50, rfl, nv.at, by have := cv.few; omega, fun H5 s5 => ?_⟩
      refine ⟨.ref v, rfl, _, rfl, by show 2 ≤ sizeLine; decide, fun T2 hT2 => ?_⟩
      have s6 := same_upd (o := .tup [V.ref v, V.int (e' : Int)]) hT2
      rw [eq] at he3
      refine k _ T2 v ws ((s3.trans (s4.trans s5)).trans s6) ?_ (((nv.pre s3).post s5).post s6) cv wv
      rw [← he3]
      exact SqT.of upd_same
end
end DW
/-! the readers of expressions together: choices with parentheses up to a depth -/
namespace DW
open PySem PySem.Spec PyProof.Rows L2 TL
set_option autoImplicit false
structure DfRdE (K : PySem.W.Frag) (mg : Str → Option Value) where
  c : Df K mg "read_choice" sReadChoice ["alphabet", "text", "start"]
  a : Df K mg "read_alternative" sReadAlternative ["alphabet", "text", "start"]
  i : Df K mg "read_item" sReadItem ["alphabet", "text", "start"]
  o : Df K mg "read_operand" sReadOperand ["alphabet", "text", "start"]
  u : Df K mg "union_of_all" sUnionOfAll ["alphabet", "languages"]
  p : Df K mg "check_products" sCheckProducts ["language", "limit"]
  s : Df K mg "star" sStar ["language"]
  st : Df K mg "star_product" sStarProduct ["letters"]
  lo : Df K mg "letters_of" sLettersOf ["factors"]
  w : Df K mg "closure_of_words" sClosureOfWords ["alphabet", "words"]
  kt : DfCat K mg
  C : DfC2 K mg
  eC : kt.L.C = C.C
  ms : mg "sorted" = none
  me : mg "set" = none
  ml : mg "len" = none
  cL : ∃ t, mg "CLOSURE_LIMIT" = some (.int 50 t)
  cP : ∃ t, mg "POSTFIX_OPERATORS" = some (.str "*+?" t)
section
variable {P : Program} {w : World} {K : PySem.W.Frag} {mg : Str → Option Value} {base : Heap}
theorem ok_rdE (D : DfRdE K mg) : ∀ d : Nat, FnOk P w K mg base CX0 (10 + 4 * d) D.c.f D.c.fd ["alphabet", "text", "start"] (spRead K D.C.C (fun z => ChD z d) FCh)
  | 0 => ⟨fun vs H Q E ⟨_, _, _, _, _, _, _, _, _, _, _, _, h, _⟩ => h.elim, fun A outer s H args us vs Q E _ _ _ _ ⟨_, _, _, _, _, _, _, _, _, _, _, _, h, _⟩ => h.elim⟩
  | d + 1 => by
    have G0 := ok_rdE D d
    have Gs : FnOk P w K mg base CX0 9 D.s.f D.s.fd ["language"] (spStrN K D.kt.L.C) := ok_strN D.s D.st D.lo D.C D.kt.L D.eC D.ms D.me
    have Gk : FnOk P w K mg base CX0 10 D.kt.c.f D.kt.c.fd ["one", "other"] (spCat K D.kt.L.C) := ok_cat D.kt D.C D.eC
    have hone : ∀ z s W n l, ItP (OpP z (ChD z d)) s W n l → 1 ≤ n ∧ n ≤ 50 := fun z s W n l h => ItP.one (fun s W n l h => OpP.one (fun s W n l h => ChD.one (d := d) h) h) h
    have hlen : ∀ z s W n l, ItP (OpP z (ChD z d)) s W n l → l ≤ s.length ∧ 1 ≤ s.length := fun z s W n l h => ItP.len (fun s W n l h => OpP.len (fun s W n l h => ChD.len (d := d) h) h) h
    rw [← D.eC] at G0
    have G1 := ok_rop (e := 10 + 4 * d) (d := d) (by omega) D.o D.w D.kt.L D.c (G0.imp fun vs H Q E ⟨z, x, i, s, rest, W, n, l, e, hx, xl, al, hG, ⟨r', er⟩, k⟩ => ⟨z, x, i, s, rest, W, n, l, e, hx, xl, al, hG, (fun c r e => by rw [er] at e; exact (List.cons.inj e).1.symm), k⟩)
    have G2 := ok_rit (e := 10 + 4 * d + 1) (O := fun z => OpP z (ChD z d)) (by omega) D.i D.kt.L D.ml D.cP D.s Gs D.o G1
    rw [D.eC] at G2 Gk
    have G3 := ok_ral (e := 10 + 4 * d + 1 + 1) (I := fun z => ItP (OpP z (ChD z d))) (fun z s W n l h => ItP.beg h) hone hlen (by omega) D.a D.C D.kt.L.mli D.ml D.cL D.kt.c Gk D.p D.i G2
    exact ok_rch (e := 10 + 4 * d + 1 + 1 + 1) (A := fun z => AlP (ItP (OpP z (ChD z d)))) (fun z s W n l h => AlP.one (hone z) h) (fun z s W n l h => AlP.len (hlen z) h) (by omega) D.c D.kt.L D.C D.eC D.ml D.cL D.u D.p D.a G3
end
end DW
/-! a written expression is not wrong anywhere -/
namespace DW
open PySem PySem.Spec PyProof.Rows L2 TL
set_option autoImplicit false
/-- depth and place behind a sign -/
def wStep (z : Str) (st : Nat × Nat) (c : Nat) : Option (Nat × Nat) :=
  if c ∈ tl z then some (st.1, 2)
  else if c = 40 then some (st.1 + 1, 1)
  else if c = 41 ∧ 0 < st.1 ∧ st.2 ≠ 0 then some (st.1 - 1, 2)
  else if c = 124 ∧ st.2 = 2 then some (st.1, 0)
  else if (c ∉ [42, 43, 63]) ∨ st.2 ≠ 2 then none
  else some st
def wRun (z : Str) : Nat × Nat → List Nat → Option (Nat × Nat)
  | st, [] => some st
  | st, c :: r => match wStep z st c with
    | some st' => wRun z st' r
    | none => none
theorem wRun_app (z : Str) : ∀ (s : List Nat) (st : Nat × Nat) (t : List Nat) (st' : Nat × Nat), wRun z st s = some st' → wRun z st (s ++ t) = wRun z st' t
  | [], st, t, st', h => by
    cases h
    rfl
  | c :: s, st, t, st', h => by
    show (match wStep z st c with | some st' => wRun z st' (s ++ t) | none => none) = _
    unfold wRun at h
    cases e : wStep z st c with
    | none => rw [e] at h; cases h
    | some st2 =>
      rw [e] at h
      exact wRun_app z s st2 t st' h
theorem wRun_pre (z : Str) : ∀ (s t : List Nat) (st st' : Nat × Nat), wRun z st (s ++ t) = some st' → ∃ st2, wRun z st s = some st2 ∧ wRun z st2 t = some st'
  | [], t, st, st', h => ⟨st, rfl, h⟩
  | c :: s, t, st, st', h => by
    have h : (match wStep z st c with | some st' => wRun z st' (s ++ t) | none => none) = some st' := h
    cases e : wStep z st c with
    | none => rw [e] at h; cases h
    | some st2 =>
      rw [e] at h
      obtain ⟨st3, h1, h2⟩ := wRun_pre z s t st2 st' h
      refine ⟨st3, ?_, h2⟩
      show (match wStep z st c with | some st' => wRun z st' s | none => none) = _
      rw [e]
      exact h1
theorem wRun_one (z : Str) (st : Nat × Nat) (c : Nat) : wRun z st [c] = wStep z st c := by
  show (match wStep z st c with | some st' => wRun z st' [] | none => none) = _
  cases wStep z st c <;> rfl
def Good (z : Str) (s : List Nat) : Prop := ∀ dep pl, wRun z (dep, pl) s = some (dep, 2)
theorem step_40 {z : Str} (al : Alph z) (d p : Nat) : wStep z (d, p) 40 = some (d + 1, 1) := by
  unfold wStep
  rw [if_neg (fun h => by have := al.2.2.2 40 h; omega), if_pos rfl]
theorem step_41 {z : Str} (al : Alph z) {d p : Nat} (hp : p ≠ 0) : wStep z (d + 1, p) 41 = some (d, 2) := by
  unfold wStep
  rw [if_neg (fun h => by have := al.2.2.2 41 h; omega), if_neg (by decide), if_pos ⟨rfl, Nat.succ_pos d, hp⟩]
  rfl
theorem step_124 {z : Str} (al : Alph z) (d : Nat) : wStep z (d, 2) 124 = some (d, 0) := by
  unfold wStep
  rw [if_neg (fun h => by have := al.2.2.2 124 h; omega), if_neg (by decide), if_neg (fun h => absurd h.1 (by decide)), if_pos ⟨rfl, rfl⟩]
theorem step_post {z : Str} (al : Alph z) {d c : Nat} (hc : c = 63 ∨ c = 42 ∨ c = 43) : wStep z (d, 2) c = some (d, 2) := by
  unfold wStep
  rw [if_neg (fun h => by have := al.2.2.2 c h; omega), if_neg (by omega), if_neg (fun h => by have := h.1; omega), if_neg (fun h => by have := h.1; omega), if_neg]
  rintro (h | h)
  · apply h
    rcases hc with e | e | e <;> rw [e] <;> decide
  · exact h rfl
theorem OpP.good {z : Str} (al : Alph z) {P : LP} (hP : ∀ s W n l, P s W n l → Good z s) {s : List Nat} {W : List Nat → Prop} {n l : Nat} (h : OpP z P s W n l) : Good z s := by
  intro d p
  cases h with
  | letter hc =>
    rw [wRun_one]
    unfold wStep
    rw [if_pos hc]
  | empty =>
    rw [show ([40, 41] : List Nat) = [40] ++ [41] from rfl, wRun_app z [40] _ _ (d + 1, 1) (by rw [wRun_one, step_40 al]), wRun_one, step_41 al (by decide)]
  | @paren s W n l h =>
    rw [show (40 :: (s ++ [41]) : List Nat) = [40] ++ (s ++ [41]) from rfl, wRun_app z [40] _ _ (d + 1, 1) (by rw [wRun_one, step_40 al]), wRun_app z s _ _ (d + 1, 2) (hP _ _ _ _ h _ _), wRun_one, step_41 al (by decide)]
theorem Posts.good {z : Str} (al : Alph z) {W W' : List Nat → Prop} {n l n' l' : Nat} {ps : List Nat} (h : Posts W n l ps W' n' l') (d : Nat) : wRun z (d, 2) ps = some (d, 2) := by
  induction h with
  | nil => rfl
  | @opt W W' n l n' l' ps r ih => rw [show (63 :: ps : List Nat) = [63] ++ ps from rfl, wRun_app z [63] _ _ (d, 2) (by rw [wRun_one, step_post al (.inl rfl)])]; exact ih
  | @star W W' n l n' l' c ps hc hb r ih => rw [show (c :: ps : List Nat) = [c] ++ ps from rfl, wRun_app z [c] _ _ (d, 2) (by rw [wRun_one, step_post al (.inr hc)])]; exact ih
theorem ItP.good {z : Str} (al : Alph z) {O : LP} (hO : ∀ s W n l, O s W n l → Good z s) {s : List Nat} {W : List Nat → Prop} {n l : Nat} (h : ItP O s W n l) : Good z s := by
  obtain ⟨o, ps, _, _, _, ho, hp, rfl⟩ := h
  intro d p
  rw [wRun_app z o _ _ _ (hO _ _ _ _ ho d p)]
  exact hp.good al d
theorem Cats.good {z : Str} {I : LP} (hI : ∀ s W n l, I s W n l → Good z s) {W W' : List Nat → Prop} {n l n' l' : Nat} {s : List Nat} (h : Cats I W n l s W' n' l') (d : Nat) : wRun z (d, 2) s = some (d, 2) := by
  induction h with
  | nil => rfl
  | cons h _ _ ih =>
    rw [wRun_app z _ _ _ _ (hI _ _ _ _ h d 2)]
    exact ih
theorem AlP.good {z : Str} {I : LP} (hI : ∀ s W n l, I s W n l → Good z s) {s : List Nat} {W : List Nat → Prop} {n l : Nat} (h : AlP I s W n l) : Good z s := by
  obtain ⟨s1, s2, _, _, _, h1, h2, rfl⟩ := h
  intro d p
  rw [wRun_app z s1 _ _ _ (hI _ _ _ _ h1 d p)]
  exact h2.good hI d
theorem Alts.good {z : Str} (al : Alph z) {A : LP} (hA : ∀ s W n l, A s W n l → Good z s) {s : List Nat} {Ls : List ((List Nat → Prop) × Nat × Nat)} (h : Alts A s Ls) (d : Nat) : wRun z (d, 2) s = some (d, 2) := by
  induction h with
  | nil => rfl
  | @cons V m k s t Ls h r ih =>
    rw [show (124 :: (s ++ t) : List Nat) = [124] ++ (s ++ t) from rfl, wRun_app z [124] _ _ (d, 0) (by rw [wRun_one, step_124 al]), wRun_app z s _ _ _ (hA _ _ _ _ h d 0)]
    exact ih
theorem ChD.good {z : Str} (al : Alph z) : ∀ {d : Nat} {s : List Nat} {W : List Nat → Prop} {n l : Nat}, ChD z d s W n l → Good z s
  | 0, _, _, _, _, h => h.elim
  | d + 1, _, _, _, _, h => by
    obtain ⟨s1, s2, _, _, _, _, h1, h2, rfl, _⟩ := h
    have hA : ∀ s W n l, AlP (ItP (OpP z (ChD z d))) s W n l → Good z s := fun s W n l h => AlP.good (fun s W n l h => ItP.good al (fun s W n l h => OpP.good al (fun s W n l h => ChD.good al (d := d) h) h) h) h
    intro dep p
    rw [wRun_app z s1 _ _ _ (hA _ _ _ _ h1 dep p)]
    exact h2.good al hA dep
end DW
/-! wrong_index of an expression -/
namespace DW
open PySem PySem.Spec PyProof.Rows L2 TL
set_option autoImplicit false
def spWi (K : PySem.W.Frag) : Sp := fun vs H Q _ => ∃ (z x : Str), vs = [.str z, .str x] ∧ Alph z ∧ (tl x).length ≤ 60 ∧ Good z (tl x) ∧ ∀ H', Same H H' → Q .non H'
section
variable {P : Program} {w : World} {K : PySem.W.Frag} {mg : Str → Option Value} {base : Heap}
theorem scWi : FnScope ["alphabet", "text", "depth", "place", "index", "sign"] ["alphabet", "text"] (defScope sWrongIndex) := ⟨rfl, rfl, rfl, by decide +kernel, rfl, by decide +kernel, by decide +kernel⟩
theorem ok_wi (D : Df K mg "wrong_index" sWrongIndex ["alphabet", "text"]) (me : mg "len" = none) (mn : mg "enumerate" = none) (c0 : ∃ t, mg "AT_START" = some (.int 0 t)) (c1 : ∃ t, mg "IN_PARENTHESES" = some (.int 1 t)) (c2 : ∃ t, mg "BEHIND_ITEM" = some (.int 2 t)) (cP : ∃ t, mg "POSTFIX_OPERATORS" = some (.str "*+?" t)) : FnOk P w K mg base CX0 1 D.f D.fd ["alphabet", "text"] (spWi K) := by
  have mP : ∃ u, mg "POSTFIX_OPERATORS" = some u ∧ RelV (.str "*+?") u := by
    obtain ⟨t, e⟩ := cP
    exact ⟨_, e, t, rfl⟩
  have m0 : ∃ u, mg "AT_START" = some u ∧ RelV (.int 0) u := by
    obtain ⟨t, e⟩ := c0
    exact ⟨_, e, t, rfl⟩
  have m1 : ∃ u, mg "IN_PARENTHESES" = some u ∧ RelV (.int 1) u := by
    obtain ⟨t, e⟩ := c1
    exact ⟨_, e, t, rfl⟩
  have m2 : ∃ u, mg "BEHIND_ITEM" = some u ∧ RelV (.int 2) u := by
    obtain ⟨t, e⟩ := c2
    exact ⟨_, e, t, rfl⟩
  refine D.F.ok scWi (fun vs H Q E h => ?_) (fun cdv A outer s H vs Q E hr h => ?_)
  · obtain ⟨z, x, rfl, _⟩ := h
    rfl
  · obtain ⟨z, x, rfl, al, xl, gd, k⟩ := h
    refine ⟨_, PSs.nox (pss_cons (ps_set (i := 2) scWi.nd rfl (.inl rfl) pe_int) (pss_cons (ps_set (i := 3) scWi.nd rfl (.inl rfl) (C8.pe_gc (by rfl) m0)) (pss_cons (ps_for PassesOwn.never rfl (ENS.pi_enS (by rfl) mn (pa_cons (pv 1) pa_nil)) (pg_tup rfl (pgs_cons (pg_name (i := 4) scWi.nd rfl (.inl rfl)) (pgs_cons (pg_name (i := 5) scWi.nd rfl (.inl rfl)) pgs_nil))) (pss_one (ps_if (pt_cmpR op_in_sign (pv 5) (pv 0) rfl) (pss_one (ps_set (i := 3) scWi.nd rfl (.inl rfl) (C8.pe_gc (by rfl) m2))) (pss_one (ps_if (pt_cmpR op_eq (pv 5) pe_str (nomark _)) (pss_cons (ps_aug (i := 2) scWi.nd rfl (.inl rfl) pe_int ip_add) (pss_one (ps_set (i := 3) scWi.nd rfl (.inl rfl) (C8.pe_gc (by rfl) m1)))) (pss_one (ps_if (pw_and (pt_cmpR op_eq (pv 5) pe_str (nomark _)) (pw_and (pt_cmpR op_gt (pv 2) pe_int (nomark _)) (pw_and1 (pt_cmpR op_ne (pv 3) (C8.pe_gc (by rfl) m0) (nomark _))))).pt (pss_cons (ps_aug (i := 2) scWi.nd rfl (.inl rfl) pe_int ip_sub) (pss_one (ps_set (i := 3) scWi.nd rfl (.inl rfl) (C8.pe_gc (by rfl) m2)))) (pss_one (ps_if (pw_and (pt_cmpR op_eq (pv 5) pe_str (nomark _)) (pw_and1 (pt_cmpR op_eq (pv 3) (C8.pe_gc (by rfl) m2) (nomark _)))).pt (pss_one (ps_set (i := 3) scWi.nd rfl (.inl rfl) (C8.pe_gc (by rfl) m0))) (pss_one (ps_if (pw_or (pt_cmpR op_notIn_sign (pv 5) (C8.pe_gc (by rfl) mP) rfl) (pw_or1 (pt_cmpR op_ne (pv 3) (C8.pe_gc (by rfl) m2) (nomark _)))).pt (pss_one (ps_ret (pv 4))) pss_nil))))))))))) (pss_cons (ps_if (pw_or (pt_cmpR op_gt (pv 2) pe_int (nomark _)) (pw_or1 (pt_cmpR op_ne (pv 3) (C8.pe_gc (by rfl) m2) (nomark _)))).pt (pss_one (ps_ret (pe_callB call_len_str (by rfl) me PySem.boot_len (pa_cons (pv 1) pa_nil)))) pss_nil) (pss_one (ps_ret pe_non)))))), ?_⟩
    have zsx : x.cps.size = (tl x).length := (Array.length_toList).symm
    have tP : tl ("*+?" : Str) = [42, 43, 63] := by decide +kernel
    refine ⟨.str x, rfl, x, rfl, for_it (ENS.walk_S (x := x)) (fun j σ H' => ∃ (dep pl : Nat) (y4 y5 : Option V), σ = [some (.str z), some (.str x), some (.int (dep : Int)), some (.int (pl : Int)), y4, y5] ∧ wRun z (0, 0) ((tl x).take j) = some (dep, pl) ∧ Same H H') ⟨0, 0, _, _, rfl, rfl, Same.refl _⟩ (fun _ _ _ _ _ => trivial) ?_ ?_⟩
    · rintro j x0 σ M M' hj ⟨dep, pl, y4, y5, rfl, run, sm⟩ ⟨T, c, rfl, hT, rfl, hc⟩
      have sT := same_upd (o := .tup [.int (j : Nat), .str ⟨#[c]⟩]) hT
      have hc' : (tl x)[j]? = some c := by rw [Array.getElem?_toList]; exact hc
      refine ⟨T, _, rfl, SqT.of upd_same, rfl, _, _, rfl, _, _, rfl, rfl, ?_⟩
      have jl : j < (tl x).length := by omega
      have spl : tl x = (tl x).take j ++ (c :: (tl x).drop (j + 1)) := by
        have := List.take_append_drop j (tl x)
        rw [List.drop_eq_getElem_cons jl] at this
        rw [List.getElem?_eq_getElem jl] at hc'
        rw [Option.some.inj hc'] at this
        exact this.symm
      obtain ⟨dep', pl', stp⟩ : ∃ dep' pl', wStep z (dep, pl) c = some (dep', pl') := by
        have h1 := gd 0 0
        rw [spl, wRun_app z _ _ _ _ run] at h1
        have h1 : (match wStep z (dep, pl) c with | some st' => wRun z st' ((tl x).drop (j + 1)) | none => none) = _ := h1
        cases e : wStep z (dep, pl) c with
        | none => rw [e] at h1; cases h1
        | some st => exact ⟨st.1, st.2, rfl⟩
      have run' : wRun z (0, 0) ((tl x).take (j + 1)) = some (dep', pl') := by
        rw [List.take_add_one, hc', Option.toList_some, wRun_app z _ _ _ _ run, wRun_one]
        exact stp
      have sm' := sm.trans sT
      generalize upd M T (.tup [.int (j : Nat), .str ⟨#[c]⟩]) = M2 at sm' ⊢
      have eqc : ∀ d : Nat, decide (V.str (⟨#[c]⟩ : Str) = V.str (⟨#[d]⟩ : Str)) = decide (c = d) := fun d => by
        by_cases h : c = d
        · rw [h, decide_eq_true rfl, decide_eq_true rfl]
        · rw [decide_eq_false h, decide_eq_false fun e => h (by
            have := congrArg tl (V.str.inj e)
            exact (List.cons.inj this).1)]
      unfold wStep at stp
      refine ⟨.str ⟨#[c]⟩, rfl, .str z, rfl, c, z, rfl, rfl, _, rfl, ?_⟩
      by_cases hz : c ∈ tl z
      · rw [if_pos hz] at stp
        cases stp
        rw [show decide (c ∈ z.cps.toList) = true from decide_eq_true hz]
        exact iteT ⟨dep, 2, _, _, rfl, run', sm'⟩
      rw [if_neg hz] at stp
      rw [show decide (c ∈ z.cps.toList) = false from decide_eq_false hz]
      refine iteF ⟨.str ⟨#[c]⟩, rfl, rfl, _, rfl, ?_⟩
      rw [show decide (V.str (⟨#[c]⟩ : Str) = V.str "(") = decide (c = 40) from eqc 40]
      by_cases h40 : c = 40
      · rw [if_pos h40] at stp
        cases stp
        rw [decide_eq_true h40]
        exact iteT ⟨_, rfl, _, _, rfl, rfl, dep + 1, 1, _, _, rfl, run', sm'⟩
      rw [if_neg h40] at stp
      rw [decide_eq_false h40]
      refine iteF ⟨.str ⟨#[c]⟩, rfl, rfl, _, rfl, ?_⟩
      rw [show decide (V.str (⟨#[c]⟩ : Str) = V.str ")") = decide (c = 41) from eqc 41]
      by_cases h41 : c = 41 ∧ 0 < dep ∧ pl ≠ 0
      · rw [if_pos h41] at stp
        cases stp
        rw [decide_eq_true h41.1]
        refine iteT ⟨.int (dep : Int), rfl, _, _, rfl, rfl, _, rfl, ?_⟩
        rw [decide_eq_true (by omega)]
        refine iteT ⟨.int (pl : Int), rfl, rfl, _, rfl, ?_⟩
        rw [show decide (V.int (pl : Int) = V.int 0) = false from decide_eq_false fun e => h41.2.2 (by have := V.int.inj e; omega)]
        refine iteT ⟨_, rfl, _, _, rfl, rfl, dep - 1, 2, some (.int (j : Int)), some (.str ⟨#[c]⟩), ?_, run', sm'⟩
        rw [show ((dep - 1 : Nat) : Int) = (dep : Int) - 1 by omega]
        rfl
      rw [if_neg h41] at stp
      have n41 : c ≠ 41 := fun h => by
        rw [if_neg (fun h' => by omega), if_pos (.inl (by rw [h]; decide))] at stp
        cases stp
      rw [decide_eq_false n41]
      refine iteF ⟨.str ⟨#[c]⟩, rfl, rfl, _, rfl, ?_⟩
      rw [show decide (V.str (⟨#[c]⟩ : Str) = V.str "|") = decide (c = 124) from eqc 124]
      by_cases h124 : c = 124 ∧ pl = 2
      · rw [if_pos h124] at stp
        cases stp
        rw [decide_eq_true h124.1]
        refine iteT ⟨.int (pl : Int), rfl, rfl, _, rfl, ?_⟩
        rw [show decide (V.int (pl : Int) = V.int 2) = true from decide_eq_true (by rw [h124.2]; rfl)]
        exact iteT ⟨dep, 0, _, _, rfl, run', sm'⟩
      rw [if_neg h124] at stp
      have n124 : c ≠ 124 := fun h => by
        rw [if_pos (.inl (by rw [h]; decide))] at stp
        cases stp
      rw [decide_eq_false n124]
      refine iteF ?_
      have post : c ∈ [42, 43, 63] ∧ pl = 2 := by
        by_cases h : (c ∉ [42, 43, 63]) ∨ pl ≠ 2
        · rw [if_pos h] at stp; cases stp
        · exact ⟨Classical.not_not.mp fun g => h (.inl g), Classical.not_not.mp fun g => h (.inr g)⟩
      rw [if_neg (fun h => h.elim (fun g => g post.1) (fun g => g post.2))] at stp
      cases stp
      refine ⟨.str ⟨#[c]⟩, rfl, c, _, rfl, rfl, _, rfl, ?_⟩
      rw [show decide (c ∈ tl ("*+?" : Str)) = true from decide_eq_true (by rw [tP]; exact post.1)]
      refine iteF ⟨.int (pl : Int), rfl, rfl, _, rfl, ?_⟩
      rw [show decide (V.int (pl : Int) = V.int 2) = true from decide_eq_true (by rw [post.2]; rfl)]
      exact iteF ⟨dep, pl, _, _, rfl, run', sm'⟩
    · rintro σ M ⟨dep, pl, y4, y5, rfl, run, sm⟩
      have h1 := gd 0 0
      rw [show (tl x).take x.cps.size = tl x by rw [zsx, List.take_length]] at run
      rw [run] at h1
      cases h1
      refine ⟨.int ((0 : Nat) : Int), rfl, _, _, rfl, rfl, _, rfl, ?_⟩
      rw [decide_eq_false (by omega)]
      refine iteF ⟨.int ((2 : Nat) : Int), rfl, rfl, _, rfl, ?_⟩
      rw [show decide (V.int ((2 : Nat) : Int) = V.int 2) = true from decide_eq_true rfl]
      exact iteF (k _ sm)
end
end DW
/-! closure_of_expression -/
namespace DW
open PySem PySem.Spec PyProof.Rows L2 TL
set_option autoImplicit false
/-- the closure of an expression with parentheses up to a depth -/
def spCle (K : PySem.W.Frag) (C : Addr) (d : Nat) : Sp := fun vs H Q _ => ∃ (z x : Str) (W : List Nat → Prop) (n l : Nat), vs = [.str z, .str x] ∧ Alph z ∧ (tl x).length ≤ 60 ∧ ChD z d (tl x) W n l ∧ ∀ H' p zs, Same H H' → LaNew K C H H' p z zs → Cl z zs n l → (∀ u, Ha zs u ↔ W u) → Q (.ref p) H'
section
variable {P : Program} {w : World} {K : PySem.W.Frag} {mg : Str → Option Value} {base : Heap}
theorem scCe : FnScope ["alphabet", "thing", "index"] ["alphabet", "thing"] (defScope sCheckExpression) := ⟨rfl, rfl, rfl, by decide +kernel, rfl, by decide +kernel, by decide +kernel⟩
theorem ok_ce (D : Df K mg "check_expression" sCheckExpression ["alphabet", "thing"]) (Dw : Df K mg "wrong_index" sWrongIndex ["alphabet", "text"]) (Gw : FnOk P w K mg base CX0 1 Dw.f Dw.fd ["alphabet", "text"] (spWi K)) (mi : mg "isinstance" = none) (mst : mg "str" = none) (me : mg "len" = none) (cM : ∃ t, mg "MOST_CHARACTERS" = some (.int 60 t)) : FnOk P w K mg base CX0 2 D.f D.fd ["alphabet", "thing"] (spWi K) := by
  have mM : ∃ u, mg "MOST_CHARACTERS" = some u ∧ RelV (.int 60) u := by
    obtain ⟨t, e⟩ := cM
    exact ⟨_, e, t, rfl⟩
  refine D.F.ok scCe (fun vs H Q E h => ?_) (fun cdv A outer s H vs Q E hr h => ?_)
  · obtain ⟨z, x, rfl, _⟩ := h
    rfl
  · obtain ⟨z, x, rfl, al, xl, gd, k⟩ := h
    have hr1 : Room 1 _ := hr.mono (by decide)
    have szx : x.length = (tl x).length := (Array.length_toList).symm
    have sl := sizeLine_eq
    refine ⟨_, PSs.nox (pss_cons (ps_if (pt_not (pt_val (pe_callB call_isi (by rfl) mi (by decide +kernel) (pa_cons (pv 1) (pa_cons (pe_bltn (v := V.ty "str") (by rfl) mst (by decide +kernel : bootBuiltins "str" = some (.type "str")) rfl) pa_nil))))) (pss_one ps_never) pss_nil) (pss_cons (ps_if (pt_cmpR op_gt (pe_callB call_len_str (by rfl) me PySem.boot_len (pa_cons (pv 1) pa_nil)) (C8.pe_gc (by rfl) mM) (nomark _)) (pss_one ps_never) pss_nil) (pss_cons (ps_set (i := 2) scCe.nd rfl (.inl rfl) (pe_call Gw hr1 (by rfl) Dw.g Dw.F.kp Dw.b .nil pass0 (pa_cons (pv 0) (pa_cons (pv 1) pa_nil)))) (pss_one (ps_if (pt_cmpR op_notN (pv 2) pe_non (nomark _)) (pss_one ps_never) pss_nil))))), ?_⟩
    refine ⟨.str x, rfl, _, _, _, _, true, rfl, .ty "str", .base (.str x), isi_kit, true, rfl, iteF ?_⟩
    refine ⟨.str x, rfl, x, rfl, by omega, _, _, rfl, rfl, _, rfl, ?_⟩
    rw [decide_eq_false (by omega)]
    refine iteF ⟨.str z, rfl, .str x, rfl, z, x, rfl, al, xl, gd, fun H1 s1 => ?_⟩
    refine ⟨.non, rfl, rfl, _, rfl, ?_⟩
    exact iteF (k H1 s1)
theorem scCl : FnScope ["alphabet", "text", "found", "end"] ["alphabet", "text"] (defScope sClosureOfExpression) := ⟨rfl, rfl, rfl, by decide +kernel, rfl, by decide +kernel, by decide +kernel⟩
theorem ok_cle {e d : Nat} (he : 2 ≤ e) (C : Addr) (D : Df K mg "closure_of_expression" sClosureOfExpression ["alphabet", "text"]) (De : Df K mg "check_expression" sCheckExpression ["alphabet", "thing"]) (Ge : FnOk P w K mg base CX0 2 De.f De.fd ["alphabet", "thing"] (spWi K))
    (Dr : Df K mg "read_choice" sReadChoice ["alphabet", "text", "start"]) (Gr : FnOk P w K mg base CX0 e Dr.f Dr.fd ["alphabet", "text", "start"] (spRead K C (fun z => ChD z d) FCh)) : FnOk P w K mg base CX0 (e + 1) D.f D.fd ["alphabet", "text"] (spCle K C d) := by
  refine D.F.ok scCl (fun vs H Q E h => ?_) (fun cdv A outer s H vs Q E hr h => ?_)
  · obtain ⟨z, x, W, n, l, rfl, _⟩ := h
    rfl
  · obtain ⟨z, x, W, n, l, rfl, al, xl, hG, k⟩ := h
    have hr2 : Room 2 _ := hr.mono (by omega)
    have hrr : Room e _ := hr.mono (by omega)
    refine ⟨_, PSs.nox (pss_cons (ps_expr (pe_call Ge hr2 (by rfl) De.g De.F.kp De.b .nil pass0 (pa_cons (pv 0) (pa_cons (pv 1) pa_nil)))) (pss_cons (ps_asg (pe_call Gr hrr (by rfl) Dr.g Dr.F.kp Dr.b .nil pass0 (pa_cons (pv 0) (pa_cons (pv 1) (pa_cons pe_int pa_nil)))) (pg_tup rfl (pgs_cons (pg_name (i := 2) scCl.nd rfl (.inl rfl)) (pgs_cons (pg_name (i := 3) scCl.nd rfl (.inl rfl)) pgs_nil)))) (pss_one (ps_ret (pv 2))))), ?_⟩
    refine ⟨.str z, rfl, .str x, rfl, z, x, rfl, al, xl, ChD.good al hG, fun H1 s1 => ?_⟩
    refine ⟨.str z, rfl, .str x, rfl, z, x, 0, tl x, [], W, n, l, rfl, by rw [List.drop_zero, List.append_nil], xl, al, hG, (fun c r h => (nomatch h)), fun H2 T p zs s2 hT lp cp wp => ?_⟩
    exact ⟨T, _, rfl, hT, rfl, _, _, rfl, _, _, rfl, rfl, _, rfl, k _ p zs (s1.trans s2) (lp.pre s1) cp wp⟩
end
end DW
/-! k56: expressions put together, read backwards, with a letter left out -/
namespace DW
open PySem PySem.Spec PyProof.Rows L2 TL
set_option autoImplicit false
/-! read backwards -/
def Tr.rev : Tr → Tr
  | .leaf s => .leaf s
  | .post c t => .post c t.rev
  | .bin true l r => .bin true l.rev r.rev
  | .bin false l r => .bin false r.rev l.rev
theorem Tr.rev_wt : ∀ t : Tr, t.rev.wt = t.wt
  | .leaf s => rfl
  | .post c t => by show t.rev.wt + 1 = t.wt + 1; rw [t.rev_wt]
  | .bin true l r => by show l.rev.wt + r.rev.wt = l.wt + r.wt; rw [l.rev_wt, r.rev_wt]
  | .bin false l r => by show r.rev.wt + l.rev.wt = l.wt + r.wt; rw [l.rev_wt, r.rev_wt, Nat.add_comm]
theorem Tr.rev_ok {z : Str} {sg : List Nat} : ∀ {t : Tr}, t.Ok z sg → t.rev.Ok z sg
  | .leaf s, h => h
  | .post c t, h => ⟨h.1, rev_ok h.2⟩
  | .bin true l r, h => ⟨rev_ok h.1, rev_ok h.2⟩
  | .bin false l r, h => ⟨rev_ok h.2, rev_ok h.1⟩
theorem WStar.rev {W V : List Nat → Prop} (h : ∀ u, W u ↔ V u.reverse) (u : List Nat) : WStar W u ↔ WStar V u.reverse := by
  unfold WStar
  constructor
  · intro g c hc
    exact (h [c]).mp (g c (List.mem_reverse.mp hc))
  · intro g c hc
    exact (h [c]).mpr (g c (List.mem_reverse.mpr hc))
theorem Tr.rev_W {z : Str} {sg : List Nat} : ∀ {t : Tr}, t.Ok z sg → ∀ u, t.rev.W u ↔ t.W u.reverse
  | .leaf s, h, u => by
    show (if s = [40, 41] then u = [] else u.Sublist s) ↔ (if s = [40, 41] then u.reverse = [] else u.reverse.Sublist s)
    by_cases e : s = [40, 41]
    · rw [if_pos e, if_pos e, List.reverse_eq_nil_iff]
    · rw [if_neg e, if_neg e]
      rcases h with h | ⟨c, _, h⟩
      · exact absurd h e
      · subst h
        constructor
        · intro q
          have := List.reverse_sublist.mpr q
          exact this
        · intro q
          have := List.reverse_sublist.mpr q
          rw [List.reverse_reverse] at this
          exact this
  | .post c t, h, u => by
    show (if c = 63 then t.rev.W else WStar t.rev.W) u ↔ (if c = 63 then t.W else WStar t.W) u.reverse
    by_cases e : c = 63
    · rw [if_pos e, if_pos e]; exact rev_W h.2 u
    · rw [if_neg e, if_neg e]; exact WStar.rev (rev_W h.2) u
  | .bin true l r, h, u => or_congr (rev_W h.1 u) (rev_W h.2 u)
  | .bin false l r, h, u => by
    show WCat r.rev.W l.rev.W u ↔ WCat l.W r.W u.reverse
    constructor
    · rintro ⟨a, b, rfl, h1, h2⟩
      exact ⟨b.reverse, a.reverse, List.reverse_append, (rev_W h.1 b).mp h2, (rev_W h.2 a).mp h1⟩
    · rintro ⟨a, b, e, h1, h2⟩
      refine ⟨b.reverse, a.reverse, ?_, (rev_W h.2 _).mpr (by rw [List.reverse_reverse]; exact h2), (rev_W h.1 _).mpr (by rw [List.reverse_reverse]; exact h1)⟩
      rw [← List.reverse_append, ← e, List.reverse_reverse]
/-! the empty word, words left out -/
theorem Tr.W_nil : ∀ t : Tr, t.W []
  | .leaf s => by
    show (if s = [40, 41] then ([] : List Nat) = [] else ([] : List Nat).Sublist s)
    split
    · rfl
    · exact List.nil_sublist _
  | .post c t => by
    show (if c = 63 then t.W else WStar t.W) []
    split
    · exact t.W_nil
    · exact fun c hc => nomatch hc
  | .bin true l r => .inl l.W_nil
  | .bin false l r => ⟨[], [], rfl, l.W_nil, r.W_nil⟩
/-- a letter replaced by the empty word -/
def lessL (c : Nat) (x : List Nat) : List Nat := x.flatMap fun d => if d = c then [40, 41] else [d]
def Tr.less (c : Nat) : Tr → Tr
  | .leaf s => .leaf (if s = [c] then [40, 41] else s)
  | .post d t => .post d (t.less c)
  | .bin ch l r => .bin ch (l.less c) (r.less c)
theorem Tr.less_wt (c : Nat) : ∀ t : Tr, (t.less c).wt = t.wt
  | .leaf s => rfl
  | .post d t => by show (t.less c).wt + 1 = t.wt + 1; rw [t.less_wt c]
  | .bin ch l r => by show (l.less c).wt + (r.less c).wt = l.wt + r.wt; rw [l.less_wt c, r.less_wt c]
theorem Tr.less_lev (c : Nat) : ∀ t : Tr, (t.less c).lev = t.lev
  | .leaf s => rfl
  | .post d t => rfl
  | .bin ch l r => rfl
theorem Tr.less_ok {z : Str} {sg : List Nat} (c : Nat) : ∀ {t : Tr}, t.Ok z sg → (t.less c).Ok z sg
  | .leaf s, h => by
    show (if s = [c] then [40, 41] else s) = [40, 41] ∨ _
    split
    · exact .inl rfl
    · exact h
  | .post d t, h => ⟨h.1, less_ok c h.2⟩
  | .bin ch l r, h => ⟨less_ok c h.1, less_ok c h.2⟩
theorem Tr.less_W (c : Nat) : ∀ (t : Tr) (u : List Nat), (t.less c).W u → t.W u
  | .leaf s, u, h => by
    have h : (if (if s = [c] then [40, 41] else s) = [40, 41] then u = [] else u.Sublist (if s = [c] then [40, 41] else s)) := h
    show (if s = [40, 41] then u = [] else u.Sublist s)
    by_cases e : s = [c]
    · rw [if_pos e, if_pos rfl] at h
      rw [h]
      split
      · rfl
      · exact List.nil_sublist _
    · rw [if_neg e] at h
      exact h
  | .post d t, u, h => by
    have h : (if d = 63 then (t.less c).W else WStar (t.less c).W) u := h
    show (if d = 63 then t.W else WStar t.W) u
    by_cases e : d = 63
    · rw [if_pos e] at h ⊢; exact t.less_W c u h
    · rw [if_neg e] at h ⊢; exact fun x hx => t.less_W c _ (h x hx)
  | .bin true l r, u, h => h.imp (l.less_W c u) (r.less_W c u)
  | .bin false l r, u, ⟨a, b, e, h1, h2⟩ => ⟨a, b, e, l.less_W c a h1, r.less_W c b h2⟩
theorem lessL_app (c : Nat) (a b : List Nat) : lessL c (a ++ b) = lessL c a ++ lessL c b := List.flatMap_append
theorem lessL_one {c d : Nat} (h : d ≠ c) : lessL c [d] = [d] := by
  unfold lessL
  rw [List.flatMap_cons, if_neg h]
  rfl
theorem lessL_len (c : Nat) : ∀ x : List Nat, (lessL c x).length ≤ 2 * x.length
  | [] => Nat.le_refl _
  | d :: x => by
    have := lessL_len c x
    unfold lessL at *
    rw [List.flatMap_cons, List.length_append, List.length_cons]
    split <;> (simp only [List.length_cons, List.length_nil]; omega)
theorem Wrp.less {lv p c : Nat} (hc : c ≠ 40 ∧ c ≠ 41) {B B' : List Nat → Prop} (h : ∀ s, B s → B' (lessL c s)) {s : List Nat} (w : Wrp lv B p s) : Wrp lv B' p (lessL c s) := by
  rcases w with ⟨b, e⟩ | ⟨s', b, rfl⟩
  · exact .inl ⟨h s b, e⟩
  · refine .inr ⟨lessL c s', h s' b, ?_⟩
    rw [show (40 :: (s' ++ [41])) = [40] ++ (s' ++ [41]) from rfl, lessL_app, lessL_app, lessL_one (fun e => hc.1 e.symm), lessL_one (fun e => hc.2 e.symm)]
    rfl
theorem Bare.less {z : Str} {sg : List Nat} {c : Nat} (hc : c ≠ 40 ∧ c ≠ 41 ∧ c ≠ 124) (hs : c ∉ sg) : ∀ {t : Tr} {s : List Nat}, t.Ok z sg → Bare t s → Bare (t.less c) (lessL c s)
  | .leaf s, x, o, h => by
    have h : x = s := h
    subst h
    show lessL c x = (if x = [c] then [40, 41] else x)
    rcases o with e | ⟨d, _, e⟩
    · subst e
      rw [if_neg (by intro e; cases e)]
      show lessL c ([40] ++ [41]) = _
      rw [lessL_app, lessL_one (fun e => hc.1 e.symm), lessL_one (fun e => hc.2.1 e.symm)]
      rfl
    · subst e
      by_cases q : d = c
      · subst q
        rw [if_pos rfl]
        unfold lessL
        rw [List.flatMap_cons, if_pos rfl]
        rfl
      · rw [if_neg (by intro e; exact q (List.cons.inj e).1), lessL_one q]
  | .post d t, x, o, h => by
    obtain ⟨s, hw, rfl⟩ := h
    refine ⟨lessL c s, ?_, ?_⟩
    · rw [Tr.less_lev]
      exact hw.less ⟨hc.1, hc.2.1⟩ fun s h => Bare.less hc hs o.2 h
    · rw [lessL_app, lessL_one (fun e : d = c => hs (by rw [← e]; exact o.1))]
  | .bin ch l r, x, o, h => by
    obtain ⟨a, b, ha, hb, rfl⟩ := h
    refine ⟨lessL c a, lessL c b, ?_, ?_, ?_⟩
    · rw [Tr.less_lev]
      exact ha.less ⟨hc.1, hc.2.1⟩ fun s h => Bare.less hc hs o.1 h
    · rw [Tr.less_lev]
      exact hb.less ⟨hc.1, hc.2.1⟩ fun s h => Bare.less hc hs o.2 h
    · rw [lessL_app]
      cases ch with
      | true =>
        show lessL c a ++ lessL c ([124] ++ b) = _
        rw [lessL_app, lessL_one (fun e => hc.2.2 e.symm)]
        rfl
      | false => rfl
theorem replL_one (c : Nat) : ∀ x : List Nat, StrLaws.replL [c] [40, 41] x = lessL c x
  | [] => StrLaws.replL_nil
  | d :: x => by
    have ih := replL_one c x
    unfold lessL at ih ⊢
    rw [List.flatMap_cons]
    by_cases e : d = c
    · rw [if_pos e, StrLaws.replL_hit (by intro h; cases h) (by rw [e]; rfl)]
      show [40, 41] ++ StrLaws.replL [c] [40, 41] x = _
      rw [ih]
    · rw [if_neg e, StrLaws.replL_miss (by intro h; exact e (List.cons.inj h).1), ih]
      rfl
theorem tl_less (x : Str) (c : Nat) : tl (Txt.replace x (one c) "()") = lessL c (tl x) := by
  have := StrLaws.replace_list (x := x) (y := one c) (z := "()") (by show 1 ≤ 1; decide)
  show (Txt.replace x (one c) "()").cps.toList = _
  rw [this]
  exact replL_one c (tl x)
/-! texts put together -/
theorem Wrp.topD {z : Str} (sg : List Nat) (hs : ∀ c ∈ sg, c = 63 ∨ c = 42 ∨ c = 43) {t : Tr} {s : List Nat} (o : t.Ok z sg) (h : Wrp t.lev (Bare t) 0 s) (w : t.wt ≤ 4) (d : Nat) (hd : 4 ≤ d) : ChD z (d + 1) s t.W t.n t.l := by
  have n18 := t.n18 (by omega)
  obtain ⟨e, rfl⟩ : ∃ e, d = e + 1 := ⟨d - 1, by omega⟩
  exact h.lv (p := 0) (d := e + 1) (by omega) (fun s h => Bare.lv sg hs t s o h (by omega) (e + 1) (by omega)) (fun s h => Lv.down (p := 0) (by omega) (Nat.zero_le _) (Bare.lv sg hs t s o h (by omega) e (by omega)))
section
variable {z : Str} {d : Nat} {s t : List Nat} {W V : List Nat → Prop} {n l m k : Nat}
def par (s : List Nat) : List Nat := 40 :: (s ++ [41])
theorem ItD.par (h : ChD z d s W n l) {ps : List Nat} {W' : List Nat → Prop} {n' l' : Nat} (p : Posts W n l ps W' n' l') : ItD z d (par s ++ ps) W' n' l' := ⟨_, ps, W, n, l, .paren h, p, rfl⟩
theorem ItD.ch (h : ItD z d s W n l) : ChD z (d + 1) s W n l := Lv.cho (ItP.one (fun _ _ _ _ h => OpP.one (fun _ _ _ _ h => ChD.one h) h) h).2 (Lv.alt h)
theorem ItD.cat (h : ItD z d s W n l) (g : ItD z d t V m k) (b : n * m ≤ 50) : ChD z (d + 1) (s ++ t) (WCat W V) (n * m) (l + k) := by
  have a : AlP (ItD z d) (s ++ t) (WCat W V) (n * m) (l + k) := ⟨s, t ++ [], W, n, l, h, .cons g b .nil, by rw [List.append_nil]⟩
  exact Lv.cho b a
theorem ItD.empty : ItD z d [40, 41] (fun u => u = []) 1 0 := ⟨[40, 41], [], _, _, _, .empty, .nil, rfl⟩
theorem ChD.or (h : ChD z (d + 1) s W n l) (g : ChD z (d + 1) t V m k) (b : n + m ≤ 50) : ChD z (d + 1) (s ++ (124 :: t)) (fun u => W u ∨ V u) (n + m) (max l k) := by
  obtain ⟨s1, s2, V1, m1, k1, Ls, h1, h2, rfl, en, _, el, hW⟩ := h
  obtain ⟨s1', s2', V', m', k', Ls', h1', h2', rfl, en', _, el', hW'⟩ := g
  refine ⟨s1, s2 ++ (124 :: (s1' ++ s2')), V1, m1, k1, Ls ++ (V', m', k') :: Ls', h1, h2.app (.cons h1' h2'), by rw [List.append_assoc], ?_, b, ?_, fun u => ?_⟩
  · rw [sumN3_app]
    show n + m = m1 + (sumN3 Ls + (m' + sumN3 Ls'))
    omega
  · rw [maxL3_app]
    show max l k = max k1 (max (maxL3 Ls) (max k' (maxL3 Ls')))
    omega
  · show W u ∨ V u ↔ _
    rw [hW u, hW' u]
    constructor
    · rintro ((h | ⟨x, hx, h⟩) | (h | ⟨x, hx, h⟩))
      · exact .inl h
      · exact .inr ⟨x, List.mem_append_left _ hx, h⟩
      · exact .inr ⟨(V', m', k'), List.mem_append_right _ List.mem_cons_self, h⟩
      · exact .inr ⟨x, List.mem_append_right _ (List.mem_cons_of_mem _ hx), h⟩
    · rintro (h | ⟨x, hx, h⟩)
      · exact .inl (.inl h)
      · rcases List.mem_append.mp hx with hx | hx
        · exact .inl (.inr ⟨x, hx, h⟩)
        · rcases List.mem_cons.mp hx with e | hx
          · rw [e] at h
            exact .inr (.inl h)
          · exact .inr (.inr ⟨x, hx, h⟩)
theorem WStar2 : WStar (WStar W) = WStar W := by
  funext u
  apply propext
  constructor
  · intro h c hc
    exact h c hc c List.mem_cons_self
  · intro h c hc e he
    rw [List.mem_singleton.mp he]
    exact h c hc
theorem WCat_nil (u : List Nat) : WCat W (fun u => u = []) u ↔ W u := by
  constructor
  · rintro ⟨a, b, rfl, h, rfl⟩
    rw [List.append_nil]; exact h
  · intro h
    exact ⟨u, [], (List.append_nil u).symm, h, rfl⟩
theorem WStar_left (h0 : W []) (hd : ∀ u, W u → ∀ c ∈ u, W [c]) (u : List Nat) : WCat (WStar W) W u ↔ WStar W u := by
  constructor
  · rintro ⟨a, b, rfl, h1, h2⟩ c hc
    exact (List.mem_append.mp hc).elim (h1 c) (hd b h2 c)
  · intro h
    exact ⟨u, [], (List.append_nil u).symm, h, h0⟩
theorem WStar_right (h0 : W []) (hd : ∀ u, W u → ∀ c ∈ u, W [c]) (u : List Nat) : WCat W (WStar W) u ↔ WStar W u := by
  constructor
  · rintro ⟨a, b, rfl, h1, h2⟩ c hc
    exact (List.mem_append.mp hc).elim (hd a h1 c) (h2 c)
  · intro h
    exact ⟨[], u, rfl, h0, h⟩
end
end DW
/-! _law_backwards -/
namespace DW
open PySem PySem.Spec PyProof.Rows L2 TL
set_option autoImplicit false
def spBk (n : Nat) (K : PySem.W.Frag) : Sp := fun vs H Q _ => ∃ (v : V) (tr : Tr), vs = [v] ∧ IsTr K H v tr ∧ tr.wt ≤ n ∧ n ≤ 100 ∧ ∀ H' v', Same H H' → IsTr K H' v' tr.rev → Q v' H'
section
variable {P : Program} {w : World} {K : PySem.W.Frag} {mg : Str → Option Value} {base : Heap}
theorem scBk : FnScope ["_law_tree_here"] ["_law_tree_here"] (defScope sLBackwards) := ⟨rfl, rfl, rfl, by decide +kernel, rfl, by decide +kernel, by decide +kernel⟩
theorem ok_bk (D : Df K mg "_law_backwards" sLBackwards ["_law_tree_here"]) : ∀ n, n ≤ 100 → FnOk P w K mg base CX0 (n + 1) D.f D.fd ["_law_tree_here"] (spBk n K)
  | 0, _ => ⟨fun vs H Q E ⟨_, tr, _, _, h, _⟩ => absurd (Nat.le_trans tr.wt1 h) (by omega), fun A outer s H args us vs Q E _ _ _ _ ⟨_, tr, _, _, h, _⟩ => absurd (Nat.le_trans tr.wt1 h) (by omega)⟩
  | n + 1, hn => by
    have Gm : FnOk P w K mg base CX0 (n + 1) D.f D.fd ["_law_tree_here"] (spBk n K) := ok_bk D n (by omega)
    refine D.F.ok scBk (fun vs H Q E h => ?_) (fun cdv A outer s H vs Q E hr h => ?_)
    · obtain ⟨v, tr, rfl, _⟩ := h
      rfl
    · obtain ⟨v, tr, rfl, iT, wn, n100, k⟩ := h
      have hrm : Room (n + 1) _ := hr.mono (by omega)
      refine ⟨_, PSs.nox (pss_cons (ps_if (pt_cmpR op_eq (pe_ix ix_tup (pv 0) pe_int (fun _ _ => rfl)) pe_str (nomark _)) (pss_one (ps_ret (pv 0))) pss_nil) (pss_cons (ps_if (pt_cmpR op_eq (pe_ix ix_tup (pv 0) pe_int (fun _ _ => rfl)) pe_str (nomark _)) (pss_one (ps_ret (pe_tup (pa_cons pe_str (pa_cons (pe_ix ix_tup (pv 0) pe_int (fun _ _ => rfl)) (pa_cons (pe_call Gm hrm (by rfl) D.g D.F.kp D.b .nil pass0 (pa_cons (pe_ix ix_tup (pv 0) pe_int (fun _ _ => rfl)) pa_nil)) pa_nil)))))) pss_nil) (pss_cons (ps_if (pt_cmpR op_eq (pe_ix ix_tup (pv 0) pe_int (fun _ _ => rfl)) pe_str (nomark _)) (pss_one (ps_ret (pe_tup (pa_cons pe_str (pa_cons (pe_call Gm hrm (by rfl) D.g D.F.kp D.b .nil pass0 (pa_cons (pe_ix ix_tup (pv 0) pe_int (fun _ _ => rfl)) pa_nil)) (pa_cons (pe_call Gm hrm (by rfl) D.g D.F.kp D.b .nil pass0 (pa_cons (pe_ix ix_tup (pv 0) pe_int (fun _ _ => rfl)) pa_nil)) pa_nil)))))) pss_nil) (pss_one (ps_ret (pe_tup (pa_cons pe_str (pa_cons (pe_call Gm hrm (by rfl) D.g D.F.kp D.b .nil pass0 (pa_cons (pe_ix ix_tup (pv 0) pe_int (fun _ _ => rfl)) pa_nil)) (pa_cons (pe_call Gm hrm (by rfl) D.g D.F.kp D.b .nil pass0 (pa_cons (pe_ix ix_tup (pv 0) pe_int (fun _ _ => rfl)) pa_nil)) pa_nil))))))))), ?_⟩
      cases iT with
      | @leaf b x s h e =>
        refine ⟨.ref b, rfl, b, _, 0, .str "leaf", rfl, rfl, h, atI_of (j := 0) rfl rfl, rfl, _, rfl, ?_⟩
        rw [decide_eq_true (p := V.str "leaf" = V.str "leaf") rfl]
        refine iteT ⟨_, rfl, ?_⟩
        exact k H _ (Same.refl _) (.leaf h e)
      | @post b cc v tt h r =>
        have wn : tt.wt + 1 ≤ n + 1 := wn
        refine ⟨.ref b, rfl, b, _, 0, .str "post", rfl, rfl, h, atI_of (j := 0) rfl rfl, rfl, _, rfl, ?_⟩
        rw [show decide (V.str "post" = V.str "leaf") = false by decide +kernel]
        refine iteF ⟨.ref b, rfl, b, _, 0, .str "post", rfl, rfl, h, atI_of (j := 0) rfl rfl, rfl, _, rfl, ?_⟩
        rw [decide_eq_true (p := V.str "post" = V.str "post") rfl]
        refine iteT ⟨.ref b, rfl, b, _, 1, .str (one cc), rfl, rfl, h, atI_of (j := 1) rfl rfl, .ref b, rfl, b, _, 2, v, rfl, rfl, h, atI_of (j := 2) rfl rfl, v, tt, rfl, r, by omega, by omega, fun H1 v1 s1 i1 => ?_⟩
        refine ⟨by show 3 ≤ sizeLine; decide, fun a ha => ?_⟩
        have s2 := same_upd (o := .tup [.str "post", .str (one cc), v1]) ha
        exact k _ _ (s1.trans s2) (.post (SqT.of upd_same) (i1.mono (same_tup s2)))
      | @bin b v v' l r ch h i j =>
        have wn : l.wt + r.wt ≤ n + 1 := wn
        have wl := l.wt1
        have wr := r.wt1
        refine ⟨.ref b, rfl, b, _, 0, .str (binN ch), rfl, rfl, h, atI_of (j := 0) rfl rfl, rfl, _, rfl, ?_⟩
        rw [show decide (V.str (binN ch) = V.str "leaf") = false by cases ch <;> decide +kernel]
        refine iteF ⟨.ref b, rfl, b, _, 0, .str (binN ch), rfl, rfl, h, atI_of (j := 0) rfl rfl, rfl, _, rfl, ?_⟩
        rw [show decide (V.str (binN ch) = V.str "post") = false by cases ch <;> decide +kernel]
        refine iteF ⟨.ref b, rfl, b, _, 0, .str (binN ch), rfl, rfl, h, atI_of (j := 0) rfl rfl, rfl, _, rfl, ?_⟩
        cases ch with
        | false =>
          rw [show decide (V.str (binN false) = V.str "join") = true by decide +kernel]
          refine iteT ⟨.ref b, rfl, b, _, 2, v', rfl, rfl, h, atI_of (j := 2) rfl rfl, v', r, rfl, j, by omega, by omega, fun H1 v1 s1 i1 => ?_⟩
          refine ⟨.ref b, rfl, b, _, 1, v, rfl, rfl, same_tup s1 _ _ h, atI_of (j := 1) rfl rfl, v, l, rfl, i.mono (same_tup s1), by omega, by omega, fun H2 v2 s2 i2 => ?_⟩
          refine ⟨by show 3 ≤ sizeLine; decide, fun a ha => ?_⟩
          have s3 := same_upd (o := .tup [.str "join", v1, v2]) ha
          exact k _ _ ((s1.trans s2).trans s3) (.bin false (SqT.of upd_same) ((i1.mono (same_tup s2)).mono (same_tup s3)) (i2.mono (same_tup s3)))
        | true =>
          rw [show decide (V.str (binN true) = V.str "join") = false by decide +kernel]
          refine iteF ⟨.ref b, rfl, b, _, 1, v, rfl, rfl, h, atI_of (j := 1) rfl rfl, v, l, rfl, i, by omega, by omega, fun H1 v1 s1 i1 => ?_⟩
          refine ⟨.ref b, rfl, b, _, 2, v', rfl, rfl, same_tup s1 _ _ h, atI_of (j := 2) rfl rfl, v', r, rfl, j.mono (same_tup s1), by omega, by omega, fun H2 v2 s2 i2 => ?_⟩
          refine ⟨by show 3 ≤ sizeLine; decide, fun a ha => ?_⟩
          have s3 := same_upd (o := .tup [.str "choice", v1, v2]) ha
          exact k _ _ ((s1.trans s2).trans s3) (.bin true (SqT.of upd_same) ((i1.mono (same_tup s2)).mono (same_tup s3)) (i2.mono (same_tup s3)))
end
end DW
/-! _law_all_right -/
namespace DW
open PySem PySem.Spec PyProof.Rows L2 TL
set_option autoImplicit false
def PairOk (K : PySem.W.Frag) (C : Addr) (H : Hp) (z : Str) (v : V) : Prop := ∃ (b : Addr) (x : Str) (p : Addr) (W : List Nat → Prop) (n l : Nat) (zs : List (List Fc)) (m k : Nat), v = .ref b ∧ SqT K H b [.str x, .ref p] ∧ (tl x).length ≤ 4000 ∧ ChD z 9 (tl x) W n l ∧ LaAt K C H p z zs ∧ Cl z zs m k ∧ ∀ u, Ha zs u ↔ W u
theorem PairOk.same {K : PySem.W.Frag} {C : Addr} {H H' : Hp} {z : Str} {v : V} (s : Same H H') (h : PairOk K C H z v) : PairOk K C H' z v := by
  obtain ⟨b, x, p, W, n, l, zs, m, k, e, hb, xl, ch, la, cl, hw⟩ := h
  exact ⟨b, x, p, W, n, l, zs, m, k, e, same_tup s _ _ hb, xl, ch, la.same s, cl, hw⟩
def spAr (K : PySem.W.Frag) (C : Addr) : Sp := fun vs H Q _ => ∃ (z : Str) (a : Addr) (xs : List V), vs = [.str z, .ref a] ∧ Alph z ∧ SqL K H a xs ∧ (∀ v ∈ xs, PairOk K C H z v) ∧ ∀ H', Same H H' → Q (.bl true) H'
section
variable {P : Program} {w : World} {K : PySem.W.Frag} {mg : Str → Option Value} {base : Heap}
theorem scAr : FnScope ["_law_alphabet_here", "_law_pairs", "_law_text", "_law_due"] ["_law_alphabet_here", "_law_pairs"] (defScope sLAllRight) := ⟨rfl, rfl, rfl, by decide +kernel, rfl, by decide +kernel, by decide +kernel⟩
theorem ok_ar {e : Nat} (he : 2 ≤ e) (D : Df K mg "_law_all_right" sLAllRight ["_law_alphabet_here", "_law_pairs"]) (S : DfC3 K mg) (mi : mg "isinstance" = none) (ml : mg "len" = none)
    (Dc : Df K mg "closure_of_expression" sClosureOfExpression ["alphabet", "text"]) (Gcl : FnOk P w K mg base CX0 e Dc.f Dc.fd ["alphabet", "text"] (spCle K S.C 9)) : FnOk P w K mg base CX0 (e + 1) D.f D.fd ["_law_alphabet_here", "_law_pairs"] (spAr K S.C) := by
  have Gq : FnOk P w K mg base CX0 1 S.q.f S.q.fd ["self", "other"] (spLaQ K S.C) := ok_laQ S mi
  refine D.F.ok scAr (fun vs H Q E h => ?_) (fun cdv A outer s H vs Q E hr h => ?_)
  · obtain ⟨z, a, xs, rfl, _⟩ := h
    rfl
  · obtain ⟨z, a, xs, rfl, al, hx, ok, k⟩ := h
    have hr2 : Room 2 _ := hr.mono he
    have szx : ∀ y : Str, y.length = (tl y).length := fun y => (Array.length_toList).symm
    have sl := sizeLine_eq
    refine ⟨_, PSs.nox (pss_cons (ps_for PassesOwn.never rfl (pi_list (pv 1)) (pg_tup rfl (pgs_cons (pg_name (i := 2) scAr.nd rfl (.inl rfl)) (pgs_cons (pg_name (i := 3) scAr.nd rfl (.inl rfl)) pgs_nil))) (pss_one (ps_if (pw_and (pt_cmpR op_le (pe_callB call_len_str (by rfl) ml PySem.boot_len (pa_cons (pv 2) pa_nil)) pe_int (nomark _)) (pw_and1 (pt_cmpR (OQ.op_one Gq S.mtq S.ow.ne S.ow.hm S.q.b pass0 hr2) (pe_call Gcl hr (by rfl) Dc.g Dc.F.kp Dc.b .nil pass0 (pa_cons (pv 0) (pa_cons (pv 2) pa_nil))) (pv 3) (nomark _)))).pt (pss_one (ps_ret pe_bl)) pss_nil))) (pss_one (ps_ret pe_bl))), ?_⟩
    refine ⟨.ref a, rfl, a, rfl, ⟨_, hx⟩, for_it (walk_list (xs := xs)) (fun n σ H' => ∃ y2 y3, σ = [some (.str z), some (.ref a), y2, y3] ∧ Same H H') ⟨_, _, rfl, Same.refl _⟩ (fun _ _ _ _ ⟨_, _, _, sm⟩ => sm.seq hx) ?_ ?_⟩
    · rintro n y σ M0 M hn ⟨y2, y3, rfl, sm⟩ ⟨rfl, hy⟩
      obtain ⟨b, x, p, W, n1, l1, zs, m1, k1, rfl, hb, xl, ch, la, cl, hw⟩ := (ok y (List.mem_of_getElem? hy)).same sm
      refine ⟨b, _, rfl, hb, rfl, _, _, rfl, _, _, rfl, rfl, ?_⟩
      refine ⟨.str x, rfl, x, rfl, by rw [szx]; omega, _, _, rfl, rfl, _, rfl, ite2 (fun e60 => ?_) (fun _ => ?_)⟩
      · have x60 : (tl x).length ≤ 60 := by
          have := of_decide_eq_true e60
          rw [szx] at this
          omega
        refine ⟨.str z, rfl, .str x, rfl, z, x, W, n1, l1, rfl, al, x60, ch, fun H1 q zs2 s1 lq cq wq => ?_⟩
        have e2 : zs2 = zs := Cl.one al cq cl fun u => (wq u).trans (hw u).symm
        refine ⟨.ref p, rfl, ?_⟩
        refine ne_lang1 S lq.at (la.same s1) al cq.ok cl.ok (b := true) ⟨fun _ => e2, fun _ => rfl⟩ ?_
        exact ⟨_, rfl, iteF ⟨_, _, rfl, sm.trans s1⟩⟩
      · exact ⟨_, _, rfl, sm⟩
    · rintro σ H' ⟨y2, y3, rfl, sm⟩
      exact k _ sm
end
end DW
/-! _law_pick of a text: the letter's token is out -/
namespace DW
open PySem PySem.Spec PyProof.Rows L2 TL
set_option autoImplicit false
def spPickS (K : PySem.W.Frag) : Sp := fun vs H Q _ => ∃ (t c : Addr) (n : Nat) (z : Str), vs = [.ref t, .str z] ∧ Tape H t c n ∧ n < 2 ^ 40 ∧ z.length ≠ 0 ∧ z.length < 2 ^ 20 ∧ ∀ H' d, Kp t H H' → Tape H' t c (n + 1) → d ∈ tl z → Q (.str (one d)) H'
section
variable {P : Program} {w : World} {K : PySem.W.Frag} {mg : Str → Option Value} {base : Heap}
theorem ok_pickK (D : Df K mg "_law_pick" sPick ["_law_tape", "_law_items"]) (Dd : Df K mg "_law_draw" sDraw ["_law_tape", "_law_many"]) (ml : mg "len" = none) : TKR.FnOkK P w K mg base CX0 2 D.f D.fd ["_law_tape", "_law_items"] (spPickS K) := by
  have Gd : FnOk P w K mg base CX0 1 Dd.f Dd.fd ["_law_tape", "_law_many"] spDraw := ok_draw Dd ml
  refine TKR.fn_ixK D.F scPick (by decide +kernel) (by decide) (fun vs H Q E h => ?_) (fun _ _ => rfl) (fun cdv A outer s H vs Q E hr h => ?_)
  · obtain ⟨t, c, n, z, rfl, _⟩ := h
    rfl
  · obtain ⟨t, c, n, z, rfl, T, hn, ne, hl, k⟩ := h
    refine ⟨_, _, pv 1, pe_call Gd hr (by rfl) Dd.g Dd.F.kp Dd.b .nil pass0 (pa_cons (pv 0) (pa_cons (pe_callB call_len_str (by rfl) ml PySem.boot_len (pa_cons (pv 1) pa_nil)) pa_nil)), ?_⟩
    have zl : z.cps.toList.length = z.length := Array.length_toList
    refine ⟨.str z, rfl, .ref t, rfl, .str z, rfl, z, rfl, ?_, t, c, _, n, rfl, T, hn, by omega, by omega, fun H' r k1 T1 r0 r1 => ?_⟩
    · rw [sizeLine_eq]; omega
    have rl : r.toNat < z.cps.toList.length := by omega
    refine ⟨z, r, z.cps.toList[r.toNat], rfl, rfl, ?_, at_cp (by omega) (List.getElem?_eq_getElem rl), k H' _ k1 T1 (List.getElem_mem rl)⟩
    rw [sizeLine_eq]
    omega
end
end DW
/-! k56: the law -/
namespace DW
open PySem PySem.Spec PyProof.Rows L2 TL
set_option autoImplicit false
theorem ItD.par0 {z : Str} {d : Nat} {s : List Nat} {W : List Nat → Prop} {n l : Nat} (h : ChD z d s W n l) : ItD z d (DW.par s) W n l := ⟨_, [], W, n, l, .paren h, .nil, (List.append_nil _).symm⟩
structure S56 (K : PySem.W.Frag) (C : Addr) (t c m : Nat) (z : Str) (v1 : V) (t1 : Tr) (la : List (Addr × List (List Fc))) (ls : List (Addr × List V)) (vs : List V) (H : Hp) : Prop where
  T : Tape H t c m
  i1 : IsTr K H v1 t1
  la : ∀ p ∈ la, LaAt K C H p.1 z p.2
  lq : ∀ p ∈ ls, H p.1 = some (.lst p.2)
  ok : ∀ v ∈ vs, PairOk K C H z v
section
variable {K : PySem.W.Frag} {C : Addr} {t c m : Nat} {z : Str} {v1 : V} {t1 : Tr} {la : List (Addr × List (List Fc))} {ls : List (Addr × List V)} {vs : List V} {H H' : Hp}
theorem S56.same (I : S56 K C t c m z v1 t1 la ls vs H) (s : Same H H') : S56 K C t c m z v1 t1 la ls vs H' :=
  ⟨I.T.same s, I.i1.mono (same_tup s), fun p hp => (I.la p hp).same s, fun p hp => s _ _ (I.lq p hp), fun v hv => (I.ok v hv).same s⟩
theorem S56.tup (I : S56 K C t c m z v1 t1 la ls vs H) {b : Addr} (hb : H b = none) {x : Str} {p : Addr} {zs : List (List Fc)} {W : List Nat → Prop} {n l n' l' : Nat} (xl : x.length ≤ 4000) {s : List Nat} (e : tl x = s) (ch : ChD z 9 s W n l) (hp : (p, zs) ∈ la) (cl : Cl z zs n' l') (hw : ∀ u, Ha zs u ↔ W u) :
    S56 K C t c m z v1 t1 la ls (vs ++ [.ref b]) (upd H b (.tup [.str x, .ref p])) := by
  have s1 := same_upd (o := .tup [.str x, .ref p]) hb
  have J := I.same s1
  refine ⟨J.T, J.i1, J.la, J.lq, fun v hv => (List.mem_append.mp hv).elim (J.ok v) fun h => ?_⟩
  subst e
  have szx : x.length = (tl x).length := (Array.length_toList).symm
  exact ⟨b, x, p, W, n, l, zs, n', l', List.mem_singleton.mp h, SqT.of upd_same, by omega, ch, J.la _ hp, cl, hw⟩
theorem PairOk.kp {K : PySem.W.Frag} {C : Addr} {H H' : Hp} {z : Str} {v : V} {t : Addr} (s : Kp t H H') (h : PairOk K C H z v) : PairOk K C H' z v := by
  obtain ⟨b, x, p, W, n, l, zs, m, k, e, hb, xl, ch, la, cl, hw⟩ := h
  exact ⟨b, x, p, W, n, l, zs, m, k, e, s.tup hb, xl, ch, la.kp s, cl, hw⟩
theorem S56.kp {m' : Nat} (I : S56 K C t c m z v1 t1 la ls vs H) (s : Kp t H H') (T : Tape H' t c m') : S56 K C t c m' z v1 t1 la ls vs H' :=
  ⟨T, I.i1.mono (kp_tup s), fun p hp => (I.la p hp).kp s, fun p hp => s.at (I.lq p hp) (fun _ e => nomatch e), fun v hv => (I.ok v hv).kp s⟩
theorem S56.lst (I : S56 K C t c m z v1 t1 la ls vs H) {b : Addr} (hb : H b = none) (ws : List V) : S56 K C t c m z v1 t1 la ((b, ws) :: ls) vs (upd H b (.lst ws)) := by
  have s1 := same_upd (o := .lst ws) hb
  have J := I.same s1
  exact ⟨J.T, J.i1, J.la, fun p hp => (List.mem_cons.mp hp).elim (fun e => by rw [e]; exact upd_same) (J.lq p), J.ok⟩
theorem S56.lang (I : S56 K C t c m z v1 t1 la ls vs H) (s : Same H H') {p : Addr} {zs : List (List Fc)} (lp : LaAt K C H' p z zs) : S56 K C t c m z v1 t1 ((p, zs) :: la) ls vs H' := by
  have J := I.same s
  exact ⟨J.T, J.i1, fun q hq => (List.mem_cons.mp hq).elim (fun e => by rw [e]; exact lp) (J.la q), J.lq, J.ok⟩
end
section
variable {P : Program} {w : World} {K : PySem.W.Frag} {mg : Str → Option Value} {base : Heap}
structure Ds (K : PySem.W.Frag) (mg : Str → Option Value) where
  p__wall : Df K mg "_wall" sWall ["k"]
  p_is_ascending : Df K mg "is_ascending" sIsAscending ["letters"]
  p_is_alphabet : Df K mg "is_alphabet" sIsAlphabet ["thing"]
  p_is_word : Df K mg "is_word" sIsWord ["alphabet", "thing"]
  p_is_factor : Df K mg "is_factor" sIsFactor ["alphabet", "thing"]
  p_is_product : Df K mg "is_product" sIsProduct ["alphabet", "thing"]
  p_format_factor : Df K mg "format_factor" sFormatFactor ["factor"]
  p_format_product : Df K mg "format_product" sFormatProduct ["product"]
  p_letters_of : Df K mg "letters_of" sLettersOf ["factors"]
  p_swallows : Df K mg "swallows" sSwallows ["factor", "other"]
  p_covers : Df K mg "covers" sCovers ["factor", "other"]
  p_reduce_product : Df K mg "reduce_product" sReduceProduct ["product"]
  p_behind : Df K mg "behind" sBehind ["product", "place"]
  p_place_behind : Df K mg "place_behind" sPlaceBehind ["product", "other", "start"]
  p_is_included : Df K mg "is_included" sIsIncluded ["product", "other"]
  p_subwords_product : Df K mg "subwords_product" sSubwordsProduct ["word"]
  p_star_product : Df K mg "star_product" sStarProduct ["letters"]
  p_is_inside : Df K mg "is_inside" sIsInside ["product", "products"]
  p_size_of_product : Df K mg "size_of_product" sSizeOfProduct ["product"]
  p_by_written_form : Df K mg "by_written_form" sByWrittenForm ["products"]
  p_maximal_products : Df K mg "maximal_products" sMaximalProducts ["products"]
  p_format_products : Df K mg "format_products" sFormatProducts ["products"]
  p_language_of_maximal : Df K mg "language_of_maximal" sLanguageOfMaximal ["alphabet", "products"]
  p_closure_of_words : Df K mg "closure_of_words" sClosureOfWords ["alphabet", "words"]
  p_check_alphabets : Df K mg "check_alphabets" sCheckAlphabets ["one", "other"]
  p_check_products : Df K mg "check_products" sCheckProducts ["language", "limit"]
  p_is_subset : Df K mg "is_subset" sIsSubset ["one", "other"]
  p_union_of_all : Df K mg "union_of_all" sUnionOfAll ["alphabet", "languages"]
  p_union : Df K mg "union" sUnion ["one", "other"]
  p_stars_among : Df K mg "stars_among" sStarsAmong ["factors"]
  p_maximal_tails : Df K mg "maximal_tails" sMaximalTails ["ends", "products"]
  p_maximal_heads : Df K mg "maximal_heads" sMaximalHeads ["products", "starts"]
  p_concatenation : Df K mg "concatenation" sConcatenation ["one", "other"]
  p_reversal : Df K mg "reversal" sReversal ["language"]
  p_star : Df K mg "star" sStar ["language"]
  p_wrong_index : Df K mg "wrong_index" sWrongIndex ["alphabet", "text"]
  p_check_expression : Df K mg "check_expression" sCheckExpression ["alphabet", "thing"]
  p_read_operand : Df K mg "read_operand" sReadOperand ["alphabet", "text", "start"]
  p_read_item : Df K mg "read_item" sReadItem ["alphabet", "text", "start"]
  p_read_alternative : Df K mg "read_alternative" sReadAlternative ["alphabet", "text", "start"]
  p_read_choice : Df K mg "read_choice" sReadChoice ["alphabet", "text", "start"]
  p_closure_of_expression : Df K mg "closure_of_expression" sClosureOfExpression ["alphabet", "text"]
  begin : Df K mg "_law_begin" sBegin ["_law_script"]
  draw : Df K mg "_law_draw" sDraw ["_law_tape", "_law_many"]
  pick : Df K mg "_law_pick" sPick ["_law_tape", "_law_items"]
  alphabet : Df K mg "_law_alphabet" sAlpha ["_law_tape"]
  tree : Df K mg "_law_tree" sLTree ["_law_tape", "_law_alphabet_here", "_law_signs", "_law_leaves"]
  written : Df K mg "_law_written" sLWritten ["_law_tape", "_law_tree_here", "_law_place"]
  backwards : Df K mg "_law_backwards" sLBackwards ["_law_tree_here"]
  all_right : Df K mg "_law_all_right" sLAllRight ["_law_alphabet_here", "_law_pairs"]
  B : Bl mg
  b_all : mg "all" = none
  b_zip : mg "zip" = none
  b_isinstance : mg "isinstance" = none
  b_str : mg "str" = none
  b_tuple : mg "tuple" = none
  b_reversed : mg "reversed" = none
  b_list : mg "list" = none
  b_enumerate : mg "enumerate" = none
  c_MOST_LETTERS : ∃ t, mg "MOST_LETTERS" = some (.int 3 t)
  c_AT_START : ∃ t, mg "AT_START" = some (.int 0 t)
  c_IN_PARENTHESES : ∃ t, mg "IN_PARENTHESES" = some (.int 1 t)
  c_BEHIND_ITEM : ∃ t, mg "BEHIND_ITEM" = some (.int 2 t)
  c_MOST_CHARACTERS : ∃ t, mg "MOST_CHARACTERS" = some (.int 60 t)
  c_CLOSURE_LIMIT : ∃ t, mg "CLOSURE_LIMIT" = some (.int 50 t)
  c_POSTFIX_OPERATORS : ∃ t, mg "POSTFIX_OPERATORS" = some (.str "*+?" t)
  c_EMPTY_FORM : ∃ t, mg "EMPTY_FORM" = some (.str "-" t)
  c_NO_WORDS : ∃ t, mg "NO_WORDS" = some (.str "none" t)
  cla : DfC3 K mg
def spLaw (K : PySem.W.Frag) : Sp := fun vs H Q _ => ∃ (a : Addr) (ns : List Int), vs = [.ref a] ∧ SqL K H a (ns.map V.int) ∧ ∀ H', Q (.bl true) H'
theorem scLaw : FnScope ["_law_script", "_law_tape", "_law_turn", "_law_alphabet_here", "_law_tree_here", "_law_other", "_law_text", "_law_more", "_law_one", "_law_two", "_law_both", "_law_loop", "_law_inner", "_law_pairs", "_law_letter", "_law_less"] ["_law_script"] (defScope sLaw) := ⟨rfl, rfl, rfl, by decide +kernel, rfl, by decide +kernel, by decide +kernel⟩
theorem ok_law (D : Df K mg "law" sLaw ["_law_script"]) (S : Ds K mg) : FnOk P w K mg base CX0 49 D.f D.fd ["_law_script"] (spLaw K) := by
  let L : DfLa K mg := ⟨S.cla.toDfC, S.p_is_alphabet, ⟨S.p_is_product, S.p_is_factor, S.p_is_word, S.p_is_ascending, S.b_all, S.b_zip, S.b_isinstance, S.b_str, S.b_tuple, S.B.len⟩, ⟨S.p_maximal_products, S.p_reduce_product, S.p_size_of_product, S.p_is_inside, ⟨S.p_is_included, S.p_place_behind, S.p_behind, S.p_covers, S.p_swallows⟩, ⟨S.p_by_written_form, S.p_format_product, S.p_format_factor, S.B.len, S.c_EMPTY_FORM, S.B.sorted⟩, S.b_all, S.b_tuple, S.b_reversed, S.B.range, S.c_MOST_LETTERS⟩, S.p_subwords_product, S.b_enumerate, S.b_list⟩
  let Dk : DfCat K mg := ⟨S.p_concatenation, S.p_stars_among, S.p_maximal_tails, S.p_maximal_heads, L.mx, S.p_language_of_maximal, S.p_check_alphabets, L⟩
  let R : DfRdE K mg := ⟨S.p_read_choice, S.p_read_alternative, S.p_read_item, S.p_read_operand, S.p_union_of_all, S.p_check_products, S.p_star, S.p_star_product, S.p_letters_of, S.p_closure_of_words, Dk, S.cla.toDfC2, rfl, S.B.sorted, S.B.set, S.B.len, S.c_CLOSURE_LIMIT, S.c_POSTFIX_OPERATORS⟩
  have Gb : FnOk P w K mg base CX0 1 S.begin.f S.begin.fd ["_law_script"] (spBegin K) := ok_begin S.begin
  have Ga : FnOk P w K mg base CX0 3 S.alphabet.f S.alphabet.fd ["_law_tape"] spAlpha := ok_alpha S.alphabet S.draw S.pick S.B
  have Gt : FnOk P w K mg base CX0 (4 + 2) S.tree.f S.tree.fd ["_law_tape", "_law_alphabet_here", "_law_signs", "_law_leaves"] (spTree 4 K) := ok_tree S.tree S.draw S.pick S.B.len 4 (by decide)
  have Gr : FnOk P w K mg base CX0 (4 + 1) S.written.f S.written.fd ["_law_tape", "_law_tree_here", "_law_place"] (spWr 4 K) := ok_writ S.written S.draw S.B.len 4 (by decide)
  have Gbk : FnOk P w K mg base CX0 (4 + 1) S.backwards.f S.backwards.fd ["_law_tree_here"] (spBk 4 K) := ok_bk S.backwards 4 (by decide)
  have Gwi : FnOk P w K mg base CX0 1 S.p_wrong_index.f S.p_wrong_index.fd ["alphabet", "text"] (spWi K) := ok_wi S.p_wrong_index S.B.len S.b_enumerate S.c_AT_START S.c_IN_PARENTHESES S.c_BEHIND_ITEM S.c_POSTFIX_OPERATORS
  have Gce : FnOk P w K mg base CX0 2 S.p_check_expression.f S.p_check_expression.fd ["alphabet", "thing"] (spWi K) := ok_ce S.p_check_expression S.p_wrong_index Gwi S.b_isinstance S.b_str S.B.len S.c_MOST_CHARACTERS
  have Grd : FnOk P w K mg base CX0 46 S.p_read_choice.f S.p_read_choice.fd ["alphabet", "text", "start"] (spRead K L.C (fun z => ChD z 9) FCh) := ok_rdE R 9
  have Gcl : FnOk P w K mg base CX0 47 S.p_closure_of_expression.f S.p_closure_of_expression.fd ["alphabet", "text"] (spCle K L.C 9) := ok_cle (e := 46) (d := 9) (by decide) L.C S.p_closure_of_expression S.p_check_expression Gce S.p_read_choice Grd
  have Gar : FnOk P w K mg base CX0 48 S.all_right.f S.all_right.fd ["_law_alphabet_here", "_law_pairs"] (spAr K L.C) := ok_ar (e := 47) (by decide) S.all_right S.cla S.b_isinstance S.B.len S.p_closure_of_expression Gcl
  have Gk : FnOk P w K mg base CX0 10 S.p_concatenation.f S.p_concatenation.fd ["one", "other"] (spCat K L.C) := ok_cat Dk S.cla.toDfC2 rfl
  have Gu : FnOk P w K mg base CX0 10 S.p_union.f S.p_union.fd ["one", "other"] (spUn0 K L.C) := ok_un0 S.p_union S.p_union_of_all S.p_check_alphabets L S.cla.toDfC2 rfl
  have Gst : FnOk P w K mg base CX0 9 S.p_star.f S.p_star.fd ["language"] (spStrN K L.C) := ok_strN S.p_star S.p_star_product S.p_letters_of S.cla.toDfC2 L rfl S.B.sorted S.B.set
  have Gre : FnOk P w K mg base CX0 10 S.p_reversal.f S.p_reversal.fd ["language"] (spRev K L.C) := ok_rev S.p_reversal S.p_language_of_maximal L S.cla.toDfC2 rfl
  have Gsu : FnOk P w K mg base CX0 6 S.p_is_subset.f S.p_is_subset.fd ["one", "other"] (spSub0 K L.C) := ok_sub0 S.p_is_subset S.p_check_alphabets S.cla.toDfC2 L.mx S.b_list
  have GpK : TKR.FnOkK P w K mg base CX0 2 S.pick.f S.pick.fd ["_law_tape", "_law_items"] (spPickS K) := ok_pickK S.pick S.draw S.B.len
  refine D.F.ok scLaw (fun vs H Q E h => ?_) (fun cdv A outer s H vs Q E hr h => ?_)
  · obtain ⟨a, ns, rfl, _⟩ := h
    rfl
  · obtain ⟨a, ns, rfl, hS, k⟩ := h
    have hr1 : Room 1 _ := hr.mono (by decide)
    have hr2 : Room 2 _ := hr.mono (by decide)
    have hr3 : Room 3 _ := hr.mono (by decide)
    have hr5 : Room (4 + 1) _ := hr.mono (by decide)
    have hr6 : Room (4 + 2) _ := hr.mono (by decide)
    have hr9 : Room 9 _ := hr.mono (by decide)
    have hr10 : Room 10 _ := hr.mono (by decide)
    have hr47 : Room 47 _ := hr.mono (by decide)
    have hr48 : Room 48 _ := hr
    have szx : ∀ y : Str, y.length = (tl y).length := fun y => (Array.length_toList).symm
    have slz := sizeLine_eq
    refine ⟨_, PSs.nox (pss_cons (ps_set (i := 1) scLaw.nd rfl (.inl rfl) (pe_call Gb hr1 (by rfl) S.begin.g S.begin.F.kp S.begin.b .nil pass0 (pa_cons (pv 0) pa_nil))) (pss_cons (ps_for PassesOwn.never rfl (pi_range1 rfl S.B.range (pa_cons pe_int pa_nil)) (pg_name (i := 2) scLaw.nd rfl (.inl rfl)) (pss_cons (ps_set (i := 3) scLaw.nd rfl (.inl rfl) (pe_call Ga hr3 (by rfl) S.alphabet.g S.alphabet.F.kp S.alphabet.b .nil pass0 (pa_cons (pv 1) pa_nil))) (pss_cons (ps_par (i := 4) (j := 5) rfl scLaw.nd rfl rfl (by decide) rfl rfl (pa_cons (pe_call Gt hr6 (by rfl) S.tree.g S.tree.F.kp S.tree.b .nil pass0 (pa_cons (pv 1) (pa_cons (pv 3) (pa_cons pe_str (pa_cons pe_int pa_nil))))) (pa_cons (pe_call Gt hr6 (by rfl) S.tree.g S.tree.F.kp S.tree.b .nil pass0 (pa_cons (pv 1) (pa_cons (pv 3) (pa_cons pe_str (pa_cons pe_int pa_nil))))) pa_nil)) (by rfl)) (pss_cons (ps_par (i := 6) (j := 7) rfl scLaw.nd rfl rfl (by decide) rfl rfl (pa_cons (pe_call Gr hr5 (by rfl) S.written.g S.written.F.kp S.written.b .nil pass0 (pa_cons (pv 1) (pa_cons (pv 4) (pa_cons pe_int pa_nil)))) (pa_cons (pe_call Gr hr5 (by rfl) S.written.g S.written.F.kp S.written.b .nil pass0 (pa_cons (pv 1) (pa_cons (pv 5) (pa_cons pe_int pa_nil)))) pa_nil)) (by rfl)) (pss_cons (ps_if (pw_or (pt_cmpR op_gt (pe_callB call_len_str (by rfl) S.B.len PySem.boot_len (pa_cons (pv 6) pa_nil)) pe_int (nomark _)) (pw_or1 (pt_cmpR op_gt (pe_callB call_len_str (by rfl) S.B.len PySem.boot_len (pa_cons (pv 7) pa_nil)) pe_int (nomark _)))).pt (pss_one ps_continue) pss_nil) (pss_cons (ps_par (i := 8) (j := 9) rfl scLaw.nd rfl rfl (by decide) rfl rfl (pa_cons (pe_call Gcl hr47 (by rfl) S.p_closure_of_expression.g S.p_closure_of_expression.F.kp S.p_closure_of_expression.b .nil pass0 (pa_cons (pv 3) (pa_cons (pv 6) pa_nil))) (pa_cons (pe_call Gcl hr47 (by rfl) S.p_closure_of_expression.g S.p_closure_of_expression.F.kp S.p_closure_of_expression.b .nil pass0 (pa_cons (pv 3) (pa_cons (pv 7) pa_nil))) pa_nil)) (by rfl)) (pss_cons (ps_par3 (i := 10) (j := 11) (l := 12) rfl scLaw.nd rfl rfl rfl (by decide) (by decide) (by decide) rfl rfl rfl (pa_cons (pe_call Gk hr10 (by rfl) S.p_concatenation.g S.p_concatenation.F.kp S.p_concatenation.b .nil pass0 (pa_cons (pv 8) (pa_cons (pv 9) pa_nil))) (pa_cons (pe_call Gst hr9 (by rfl) S.p_star.g S.p_star.F.kp S.p_star.b .nil pass0 (pa_cons (pv 8) pa_nil)) (pa_cons (pe_op op_add_str (pe_op op_add_str pe_str (pv 6)) pe_str) pa_nil))) (by rfl)) (pss_cons (ps_set (i := 13) scLaw.nd rfl (.inl rfl) (pe_lst (pa_cons (pe_tup (pa_cons (pe_op op_add_str (pe_op op_add_str (pe_op op_add_str (pv 12) pe_str) (pv 7)) pe_str) (pa_cons (pv 10) pa_nil))) (pa_cons (pe_tup (pa_cons (pe_op op_add_str (pe_op op_add_str (pv 6) pe_str) (pv 7)) (pa_cons (pe_call Gu hr10 (by rfl) S.p_union.g S.p_union.F.kp S.p_union.b .nil pass0 (pa_cons (pv 8) (pa_cons (pv 9) pa_nil))) pa_nil))) (pa_cons (pe_tup (pa_cons (pe_op op_add_str (pv 12) pe_str) (pa_cons (pv 11) pa_nil))) pa_nil))))) (pss_cons (ps_set (i := 13) scLaw.nd rfl (.inl rfl) (pe_op op_cat (pv 13) (pe_lst (pa_cons (pe_tup (pa_cons (pe_op op_add_str (pv 12) pe_str) (pa_cons (pv 11) pa_nil))) (pa_cons (pe_tup (pa_cons (pe_op op_add_str (pv 12) pe_str) (pa_cons (pv 8) pa_nil))) (pa_cons (pe_tup (pa_cons (pe_op op_add_str (pe_op op_add_str pe_str (pv 6)) pe_str) (pa_cons (pv 8) pa_nil))) (pa_cons (pe_tup (pa_cons (pe_op op_add_str (pv 12) pe_str) (pa_cons (pv 11) pa_nil))) pa_nil))))))) (pss_cons (ps_set (i := 13) scLaw.nd rfl (.inl rfl) (pe_op op_cat (pv 13) (pe_lst (pa_cons (pe_tup (pa_cons (pe_op op_add_str (pe_op op_add_str (pv 6) pe_str) (pv 6)) (pa_cons (pv 8) pa_nil))) (pa_cons (pe_tup (pa_cons (pe_op op_add_str (pe_op op_add_str (pv 12) pe_str) (pv 12)) (pa_cons (pv 11) pa_nil))) (pa_cons (pe_tup (pa_cons (pe_op op_add_str (pe_op op_add_str (pv 12) (pv 12)) pe_str) (pa_cons (pv 11) pa_nil))) pa_nil)))))) (pss_cons (ps_set (i := 13) scLaw.nd rfl (.inl rfl) (pe_op op_cat (pv 13) (pe_lst (pa_cons (pe_tup (pa_cons (pe_op op_add_str (pv 12) pe_str) (pa_cons (pv 8) pa_nil))) (pa_cons (pe_tup (pa_cons (pe_op op_add_str pe_str (pv 6)) (pa_cons (pv 8) pa_nil))) (pa_cons (pe_tup (pa_cons (pe_call Gr hr5 (by rfl) S.written.g S.written.F.kp S.written.b .nil pass0 (pa_cons (pv 1) (pa_cons (pe_call Gbk hr5 (by rfl) S.backwards.g S.backwards.F.kp S.backwards.b .nil pass0 (pa_cons (pv 4) pa_nil)) (pa_cons pe_int pa_nil)))) (pa_cons (pe_call Gre hr10 (by rfl) S.p_reversal.g S.p_reversal.F.kp S.p_reversal.b .nil pass0 (pa_cons (pv 8) pa_nil)) pa_nil))) pa_nil)))))) (pss_cons (ps_if (pt_not (pt_val (pe_call Gar hr48 (by rfl) S.all_right.g S.all_right.F.kp S.all_right.b .nil pass0 (pa_cons (pv 3) (pa_cons (pv 13) pa_nil))))) (pss_one (ps_ret pe_bl)) pss_nil) (TKR.pss_setK GpK hr2 (by rfl) S.pick.g S.pick.F.kp S.pick.b .nil pass0 (pa_cons (pv 1) (pa_cons (pv 3) pa_nil)) scLaw.nd rfl rfl (TKR.pssk_cons (TKR.psk_set (a := 15) scLaw.nd rfl (.inl rfl) (TKR.pek_repl (ia := 6) (i := 14) rfl (.inl rfl) rfl)) (pss_one (ps_if (pw_and (pt_cmpR op_le (pe_callB call_len_str (by rfl) S.B.len PySem.boot_len (pa_cons (pv 15) pa_nil)) pe_int (nomark _)) (pw_and1 (pt_not (pt_val (pe_call Gsu hr6 (by rfl) S.p_is_subset.g S.p_is_subset.F.kp S.p_is_subset.b .nil pass0 (pa_cons (pe_call Gcl hr47 (by rfl) S.p_closure_of_expression.g S.p_closure_of_expression.F.kp S.p_closure_of_expression.b .nil pass0 (pa_cons (pv 3) (pa_cons (pv 15) pa_nil))) (pa_cons (pv 8) pa_nil))))))).pt (pss_one (ps_ret pe_bl)) pss_nil)))))))))))))))) (pss_one (ps_ret pe_bl)))), ?_⟩
    refine ⟨.ref a, rfl, a, ns, rfl, hS, fun H0 t c s0 ht hc T0 => ?_⟩
    refine ⟨6, rfl, by decide, by decide, for_it walk_range (fun i σ H' => ∃ y2 y3 y4 y5 y6 y7 y8 y9 y10 y11 y12 y13 y14 y15, σ = [some (.ref a), some (.ref t), y2, y3, y4, y5, y6, y7, y8, y9, y10, y11, y12, y13, y14, y15] ∧ Tape H' t c (100000 * i)) ⟨_, _, _, _, _, _, _, _, _, _, _, _, _, _, rfl, T0⟩ (fun _ _ _ _ _ => trivial) ?_ ?_⟩
    · rintro i x0 σ G G' hi ⟨y2, y3, y4, y5, y6, y7, y8, y9, y10, y11, y12, y13, y14, y15, rfl, T⟩ ⟨rfl, rfl⟩
      refine ⟨.ref t, rfl, t, c, 100000 * i, rfl, T, by omega, fun H1 z k1 T1 al => ?_⟩
      have sgs : ∀ d ∈ tl ("*+?" : Str), d = 63 ∨ d = 42 ∨ d = 43 := by decide +kernel
      have f4 : ∀ a : Fin 5, ftab a.val ≤ 4 := by decide +kernel
      refine ⟨.ref t, rfl, .str z, rfl, t, c, _, z, "*+?", 4, rfl, T1, by omega, al, by decide +kernel, by decide +kernel, by decide, by decide, by decide, fun H2 v1 t1 k2 T2 i1 o1 w1 => ?_⟩
      have w1 : t1.wt ≤ 4 := w1
      have T2 : Tape H2 t c (100000 * i + 5000) := T2.mono (by show _ + (10 * 4 - 5) ≤ _; omega)
      refine ⟨.ref t, rfl, .str z, rfl, t, c, _, z, "*+?", 4, rfl, T2, by omega, al, by decide +kernel, by decide +kernel, by decide, by decide, by decide, fun H3 v2 t2 k3 T3 i2 o2 w2 => ?_⟩
      have w2 : t2.wt ≤ 4 := w2
      have T3 : Tape H3 t c (100000 * i + 6000) := T3.mono (by show _ + (10 * 4 - 5) ≤ _; omega)
      have i1 := i1.mono (kp_tup k3)
      refine ⟨_, _, rfl, ?_⟩
      refine ⟨.ref t, rfl, v1, rfl, t, c, _, z, tl ("*+?" : Str), v1, t1, 0, rfl, T3, by omega, i1, o1, w1, by decide, fun H4 x k4 T4 wx => ?_⟩
      have T4 : Tape H4 t c (100000 * i + 7000) := T4.mono (by omega)
      have i1 := i1.mono (kp_tup k4)
      have i2 := i2.mono (kp_tup k4)
      refine ⟨.ref t, rfl, v2, rfl, t, c, _, z, tl ("*+?" : Str), v2, t2, 0, rfl, T4, by omega, i2, o2, w2, by decide, fun H5 y k5 T5 wy => ?_⟩
      have T5 : Tape H5 t c (100000 * i + 8000) := T5.mono (by omega)
      have i1 := i1.mono (kp_tup k5)
      have xl := wx.len fun s h => Bare.len o1 h
      have yl := wy.len fun s h => Bare.len o2 h
      refine ⟨_, _, rfl, ?_⟩
      refine ⟨.str x, rfl, x, rfl, by rw [szx]; omega, _, _, rfl, rfl, _, rfl, ite2 (fun _ => iteT ?_) (fun e60 => ⟨.str y, rfl, y, rfl, by rw [szx]; omega, _, _, rfl, rfl, _, rfl, ite2 (fun _ => ?_) (fun e61 => ?_)⟩)⟩
      · exact ⟨_, _, _, _, _, _, _, _, _, _, _, _, _, _, rfl, T5.mono (by omega)⟩
      · exact ⟨_, _, _, _, _, _, _, _, _, _, _, _, _, _, rfl, T5.mono (by omega)⟩
      have x60 : (tl x).length ≤ 60 := by
        have : ¬ ((x.length : Int) > 60) := fun h => e60 (decide_eq_true h)
        rw [szx] at this
        omega
      have y60 : (tl y).length ≤ 60 := by
        have : ¬ ((y.length : Int) > 60) := fun h => e61 (decide_eq_true h)
        rw [szx] at this
        omega
      have n1 : t1.n ≤ 4 := Nat.le_trans (t1.n_le (by omega)).2 (f4 ⟨t1.wt, by omega⟩)
      have n2 : t2.n ≤ 4 := Nat.le_trans (t2.n_le (by omega)).2 (f4 ⟨t2.wt, by omega⟩)
      have l1 : t1.l ≤ 4 := Nat.le_trans t1.l_le w1
      have l2 : t2.l ≤ 4 := Nat.le_trans t2.l_le w2
      have cx : ∀ d, 4 ≤ d → ChD z (d + 1) (tl x) t1.W t1.n t1.l := fun d hd => wx.topD (tl ("*+?" : Str)) sgs o1 w1 d hd
      have cy : ∀ d, 4 ≤ d → ChD z (d + 1) (tl y) t2.W t2.n t2.l := fun d hd => wy.topD (tl ("*+?" : Str)) sgs o2 w2 d hd
      refine ⟨.str z, rfl, .str x, rfl, z, x, t1.W, t1.n, t1.l, rfl, al, x60, cx 8 (by decide), fun H6 p1 z1 s6 lp1 c1 h1 => ?_⟩
      refine ⟨.str z, rfl, .str y, rfl, z, y, t2.W, t2.n, t2.l, rfl, al, y60, cy 8 (by decide), fun H7 p2 z2 s7 lp2 c2 h2 => ?_⟩
      have la1 := lp1.at.same s7
      have la2 := lp2.at
      have T7 := (T5.same s6).same s7
      have i1 := (i1.mono (same_tup s6)).mono (same_tup s7)
      refine ⟨_, _, rfl, ?_⟩
      dsimp only [List.set]
      -- the concatenation, the star
      refine ⟨.ref p1, rfl, .ref p2, rfl, nilI (cat_go al la1 la2 c1 c2 (by omega) (by omega) (Nat.le_trans (Nat.mul_le_mul n1 n2) (by decide)) (by omega) (by omega) fun H8 p3 z3 s8 la3 c3 h3 => ?_)⟩
      refine ⟨.ref p1, rfl, p1, z, z1, t1.n, t1.l, rfl, la1.same s8, al, c1, Nat.le_trans (Nat.mul_le_mul l1 n1) (by decide), fun H9 p4 z4 s9 lp4 c4 h4 => ?_⟩
      have lit1 : ∀ q : Str, q.length ≤ 4 → (q : Str).length ≤ 4 := fun _ h => h
      have len1 : ("(" : Str).length = 1 ∧ (")" : Str).length = 1 ∧ ("|" : Str).length = 1 ∧ ("*" : Str).length = 1 := ⟨rfl, rfl, rfl, rfl⟩
      obtain ⟨q1, q2, q3, q4⟩ := len1
      have lap : ∀ a b : Str, (a ++ b).length = a.length + b.length := fun a b => by rw [szx, szx a, szx b, tl_app, List.length_append]
      refine ⟨.str x, rfl, _, _, rfl, rfl, by rw [q1, szx]; omega, _, _, rfl, rfl, by rw [lap, q1, q2, szx x]; omega, ?_⟩
      refine ⟨_, _, _, rfl, ?_⟩
      dsimp only [List.set]
      have tin : tl ((("(" : Str) ++ x) ++ (")" : Str)) = par (tl x) := by
        rw [tl_app, tl_app]
        rfl
      have linn : ((("(" : Str) ++ x) ++ (")" : Str)).length = (tl x).length + 2 := by rw [lap, lap, q1, q2, szx x]; omega
      generalize ((("(" : Str) ++ x) ++ (")" : Str)) = inn at tin linn ⊢
      have I : S56 K L.C t c (100000 * i + 8000) z v1 t1 [(p1, z1)] [] [] H9 := ⟨(T7.same s8).same s9, (i1.mono (same_tup s8)).mono (same_tup s9), fun p hp => by rw [List.mem_singleton.mp hp]; exact (la1.same s8).same s9, fun p hp => (nomatch hp), fun v hv => (nomatch hv)⟩
      have I := I.lang (Same.refl _) ((la2.same s8).same s9)
      have I := I.lang (Same.refl _) (la3.same s9)
      have I := I.lang (Same.refl _) lp4.at
      have xs : x.length ≤ 60 := by rw [szx]; exact x60
      have ys : y.length ≤ 60 := by rw [szx]; exact y60
      have is : inn.length ≤ 62 := by omega
      have qs : ("?" : Str).length = 1 ∧ ("+" : Str).length = 1 ∧ ("((" : Str).length = 2 ∧ ("))" : Str).length = 2 ∧ ("?+*" : Str).length = 3 ∧ ("*?" : Str).length = 2 ∧ ("()" : Str).length = 2 ∧ ("()|" : Str).length = 3 := ⟨rfl, rfl, rfl, rfl, rfl, rfl, rfl, rfl⟩
      obtain ⟨q5, q6, q7, q8, q9, q10, q11, q12⟩ := qs
      have star_b : t1.l * t1.n ≤ 1000 := Nat.le_trans (Nat.mul_le_mul l1 n1) (by decide)
      have W0 := t1.W_nil
      have Wd : ∀ u, t1.W u → ∀ c ∈ u, t1.W [c] := fun u hu c hc => (h1 _).mp (Ha.sub (List.singleton_sublist.mpr hc) ((h1 u).mpr hu))
      have h4' : ∀ u, Ha z4 u ↔ WStar t1.W u := fun u => (h4 u).trans (forall_congr' fun c => imp_congr_right fun _ => h1 [c])
      clear T7 i1 la1 la2 la3 lp4 lp1 lp2 s6 s7 s8 s9 T1 T2 T3 T4 T5
      -- the first three
      refine ⟨.str inn, rfl, _, _, rfl, rfl, by simp only [q1]; omega, .str y, rfl, _, _, rfl, rfl, by simp only [lap, q1]; omega, _, _, rfl, rfl, by simp only [lap, q1, q2]; omega, .ref p3, rfl, by show 2 ≤ sizeLine; decide, fun b1 hb1 => ?_⟩
      have I := I.tup hb1 (x := ((inn ++ ("(" : Str)) ++ y) ++ (")" : Str)) (p := p3) (zs := z3) (by simp only [lap, q1, q2]; omega) (s := par (tl x) ++ par (tl y)) (by rw [tl_app, tl_app, tl_app, tin, List.append_assoc, List.append_assoc]; rfl) ((ItD.par0 (d := 8) (cx 7 (by decide))).cat (ItD.par0 (cy 7 (by decide))) (Nat.le_trans (Nat.mul_le_mul n1 n2) (by decide))) (by simp) c3 (fun u => (h3 u).trans ⟨fun ⟨a, b, e, ha, hb⟩ => ⟨a, b, e, (h1 a).mp ha, (h2 b).mp hb⟩, fun ⟨a, b, e, ha, hb⟩ => ⟨a, b, e, (h1 a).mpr ha, (h2 b).mpr hb⟩⟩)
      refine ⟨.str x, rfl, _, _, rfl, rfl, by first | omega | (simp only [lap, q1, q2, q3, q4, q5, q6, q7, q8, q9, q10, q11, q12]; omega), .str y, rfl, _, _, rfl, rfl, by first | omega | (simp only [lap, q1, q2, q3, q4, q5, q6, q7, q8, q9, q10, q11, q12]; omega), .ref p1, rfl, .ref p2, rfl, nilI (un_go al (I.la (p1, z1) (by simp)) (I.la (p2, z2) (by simp)) c1 c2 (by omega) (by omega) (by omega) fun Hu p5 z5 s5 la5 c5 h5 => ?_)⟩
      have I := I.lang s5 la5
      refine ⟨by show 2 ≤ sizeLine; decide, fun b2 hb2 => ?_⟩
      have I := I.tup hb2 (x := ((x ++ ("|" : Str)) ++ y)) (p := p5) (zs := z5) (by first | omega | (simp only [lap, q1, q2, q3, q4, q5, q6, q7, q8, q9, q10, q11, q12]; omega)) (s := tl x ++ (124 :: tl y)) (by rw [tl_app, tl_app, List.append_assoc]; rfl) (ChD.or (d := 8) (cx 8 (by decide)) (cy 8 (by decide)) (by omega)) (by simp) c5 (fun u => (h5 u).trans (or_congr (h1 u) (h2 u)))
      refine ⟨.str inn, rfl, _, _, rfl, rfl, by first | omega | (simp only [lap, q1, q2, q3, q4, q5, q6, q7, q8, q9, q10, q11, q12]; omega), .ref p4, rfl, by show 2 ≤ sizeLine; decide, fun b3 hb3 => ?_⟩
      have I := I.tup hb3 (x := (inn ++ ("*" : Str))) (p := p4) (zs := z4) (by first | omega | (simp only [lap, q1, q2, q3, q4, q5, q6, q7, q8, q9, q10, q11, q12]; omega)) (s := DW.par (tl x) ++ [42]) (by rw [tl_app, tin]; rfl) (ItD.ch (ItD.par (d := 8) (cx 7 (by decide)) (.star (.inl rfl) star_b .nil))) (by simp) c4 (h4')
      refine ⟨by show 3 ≤ sizeLine; decide, fun a1 ha1 => ?_⟩
      have I := I.lst ha1 [.ref b1, .ref b2, .ref b3]
      dsimp only [List.set]
      refine ⟨.ref a1, rfl, ?_⟩
      refine ⟨.str inn, rfl, _, _, rfl, rfl, by first | omega | (simp only [lap, q1, q2, q3, q4, q5, q6, q7, q8, q9, q10, q11, q12]; omega), .ref p4, rfl, by show 2 ≤ sizeLine; decide, fun b4 hb4 => ?_⟩
      have I := I.tup hb4 (x := (inn ++ ("+" : Str))) (p := p4) (zs := z4) (by first | omega | (simp only [lap, q1, q2, q3, q4, q5, q6, q7, q8, q9, q10, q11, q12]; omega)) (s := DW.par (tl x) ++ [43]) (by rw [tl_app, tin]; rfl) (ItD.ch (ItD.par (d := 8) (cx 7 (by decide)) (.star (.inr rfl) star_b .nil))) (by simp) c4 (h4')
      refine ⟨.str inn, rfl, _, _, rfl, rfl, by first | omega | (simp only [lap, q1, q2, q3, q4, q5, q6, q7, q8, q9, q10, q11, q12]; omega), .ref p1, rfl, by show 2 ≤ sizeLine; decide, fun b5 hb5 => ?_⟩
      have I := I.tup hb5 (x := (inn ++ ("?" : Str))) (p := p1) (zs := z1) (by first | omega | (simp only [lap, q1, q2, q3, q4, q5, q6, q7, q8, q9, q10, q11, q12]; omega)) (s := DW.par (tl x) ++ [63]) (by rw [tl_app, tin]; rfl) (ItD.ch (ItD.par (d := 8) (cx 7 (by decide)) (.opt .nil))) (by simp) c1 (h1)
      refine ⟨.str x, rfl, _, _, rfl, rfl, by first | omega | (simp only [lap, q1, q2, q3, q4, q5, q6, q7, q8, q9, q10, q11, q12]; omega), _, _, rfl, rfl, by first | omega | (simp only [lap, q1, q2, q3, q4, q5, q6, q7, q8, q9, q10, q11, q12]; omega), .ref p1, rfl, by show 2 ≤ sizeLine; decide, fun b6 hb6 => ?_⟩
      have I := I.tup hb6 (x := ((("((" : Str) ++ x) ++ ("))" : Str))) (p := p1) (zs := z1) (by first | omega | (simp only [lap, q1, q2, q3, q4, q5, q6, q7, q8, q9, q10, q11, q12]; omega)) (s := DW.par (DW.par (tl x))) (by rw [tl_app, tl_app]; show [40, 40] ++ tl x ++ [41, 41] = 40 :: (40 :: (tl x ++ [41]) ++ [41]); simp) (ItD.ch (d := 8) (ItD.par0 (ItD.ch (d := 7) (ItD.par0 (cx 6 (by decide)))))) (by simp) c1 (h1)
      refine ⟨.str inn, rfl, _, _, rfl, rfl, by first | omega | (simp only [lap, q1, q2, q3, q4, q5, q6, q7, q8, q9, q10, q11, q12]; omega), .ref p4, rfl, by show 2 ≤ sizeLine; decide, fun b7 hb7 => ?_⟩
      have I := I.tup hb7 (x := (inn ++ ("?+*" : Str))) (p := p4) (zs := z4) (by first | omega | (simp only [lap, q1, q2, q3, q4, q5, q6, q7, q8, q9, q10, q11, q12]; omega)) (s := DW.par (tl x) ++ [63, 43, 42]) (by rw [tl_app, tin]; rfl) (ItD.ch (ItD.par (d := 8) (cx 7 (by decide)) (.opt (.star (.inr rfl) star_b (.star (.inl rfl) (by decide) .nil))))) (by simp) c4 (fun u => by rw [WStar2]; exact h4' u)
      refine ⟨by show 4 ≤ sizeLine; decide, fun a2 ha2 => ?_⟩
      have I := I.lst ha2 [.ref b4, .ref b5, .ref b6, .ref b7]
      refine ⟨_, _, _, _, rfl, rfl, I.lq (a1, [.ref b1, .ref b2, .ref b3]) (by simp), I.lq (a2, [.ref b4, .ref b5, .ref b6, .ref b7]) (by simp), by show 7 ≤ sizeLine; decide, fun e1 he1 => ?_⟩
      have I := I.lst he1 ([.ref b1, .ref b2, .ref b3] ++ [.ref b4, .ref b5, .ref b6, .ref b7])
      dsimp only [List.set]
      refine ⟨.ref e1, rfl, ?_⟩
      refine ⟨.str x, rfl, _, _, rfl, rfl, by first | omega | (simp only [lap, q1, q2, q3, q4, q5, q6, q7, q8, q9, q10, q11, q12]; omega), .str x, rfl, _, _, rfl, rfl, by first | omega | (simp only [lap, q1, q2, q3, q4, q5, q6, q7, q8, q9, q10, q11, q12]; omega), .ref p1, rfl, by show 2 ≤ sizeLine; decide, fun b8 hb8 => ?_⟩
      have I := I.tup hb8 (x := ((x ++ ("|" : Str)) ++ x)) (p := p1) (zs := z1) (by first | omega | (simp only [lap, q1, q2, q3, q4, q5, q6, q7, q8, q9, q10, q11, q12]; omega)) (s := tl x ++ (124 :: tl x)) (by rw [tl_app, tl_app, List.append_assoc]; rfl) (ChD.or (d := 8) (cx 8 (by decide)) (cx 8 (by decide)) (by omega)) (by simp) c1 (fun u => (h1 u).trans ⟨.inl, fun h => h.elim id id⟩)
      refine ⟨.str inn, rfl, _, _, rfl, rfl, by first | omega | (simp only [lap, q1, q2, q3, q4, q5, q6, q7, q8, q9, q10, q11, q12]; omega), .str inn, rfl, _, _, rfl, rfl, by first | omega | (simp only [lap, q1, q2, q3, q4, q5, q6, q7, q8, q9, q10, q11, q12]; omega), .ref p4, rfl, by show 2 ≤ sizeLine; decide, fun b9 hb9 => ?_⟩
      have I := I.tup hb9 (x := ((inn ++ ("*" : Str)) ++ inn)) (p := p4) (zs := z4) (by first | omega | (simp only [lap, q1, q2, q3, q4, q5, q6, q7, q8, q9, q10, q11, q12]; omega)) (s := (DW.par (tl x) ++ [42]) ++ DW.par (tl x)) (by rw [tl_app, tl_app, tin]; rfl) (((ItD.par (d := 8) (cx 7 (by decide)) (.star (.inl rfl) star_b .nil))).cat (ItD.par0 (cx 7 (by decide))) (by omega)) (by simp) c4 (fun u => (h4' u).trans (WStar_left W0 Wd u).symm)
      refine ⟨.str inn, rfl, .str inn, rfl, _, _, rfl, rfl, by first | omega | (simp only [lap, q1, q2, q3, q4, q5, q6, q7, q8, q9, q10, q11, q12]; omega), _, _, rfl, rfl, by first | omega | (simp only [lap, q1, q2, q3, q4, q5, q6, q7, q8, q9, q10, q11, q12]; omega), .ref p4, rfl, by show 2 ≤ sizeLine; decide, fun b10 hb10 => ?_⟩
      have I := I.tup hb10 (x := ((inn ++ inn) ++ ("*?" : Str))) (p := p4) (zs := z4) (by first | omega | (simp only [lap, q1, q2, q3, q4, q5, q6, q7, q8, q9, q10, q11, q12]; omega)) (s := DW.par (tl x) ++ (DW.par (tl x) ++ [42, 63])) (by rw [tl_app, tl_app, tin, List.append_assoc]; rfl) ((ItD.par0 (d := 8) (cx 7 (by decide))).cat (ItD.par (cx 7 (by decide)) (.star (.inl rfl) star_b (.opt .nil))) (by omega)) (by simp) c4 (fun u => (h4' u).trans (WStar_right W0 Wd u).symm)
      refine ⟨by show 3 ≤ sizeLine; decide, fun a3 ha3 => ?_⟩
      have I := I.lst ha3 [.ref b8, .ref b9, .ref b10]
      refine ⟨_, _, _, _, rfl, rfl, I.lq (e1, [.ref b1, .ref b2, .ref b3] ++ [.ref b4, .ref b5, .ref b6, .ref b7]) (by simp), I.lq (a3, [.ref b8, .ref b9, .ref b10]) (by simp), by show 10 ≤ sizeLine; decide, fun e2 he2 => ?_⟩
      have I := I.lst he2 (([.ref b1, .ref b2, .ref b3] ++ [.ref b4, .ref b5, .ref b6, .ref b7]) ++ [.ref b8, .ref b9, .ref b10])
      dsimp only [List.set]
      refine ⟨.ref e2, rfl, ?_⟩
      refine ⟨.str inn, rfl, _, _, rfl, rfl, by first | omega | (simp only [lap, q1, q2, q3, q4, q5, q6, q7, q8, q9, q10, q11, q12]; omega), .ref p1, rfl, by show 2 ≤ sizeLine; decide, fun b11 hb11 => ?_⟩
      have I := I.tup hb11 (x := (inn ++ ("()" : Str))) (p := p1) (zs := z1) (by first | omega | (simp only [lap, q1, q2, q3, q4, q5, q6, q7, q8, q9, q10, q11, q12]; omega)) (s := DW.par (tl x) ++ [40, 41]) (by rw [tl_app, tin]; rfl) ((ItD.par0 (d := 8) (cx 7 (by decide))).cat ItD.empty (by omega)) (by simp) c1 (fun u => (h1 u).trans (WCat_nil u).symm)
      refine ⟨.str x, rfl, _, _, rfl, rfl, by first | omega | (simp only [lap, q1, q2, q3, q4, q5, q6, q7, q8, q9, q10, q11, q12]; omega), .ref p1, rfl, by show 2 ≤ sizeLine; decide, fun b12 hb12 => ?_⟩
      have I := I.tup hb12 (x := (("()|" : Str) ++ x)) (p := p1) (zs := z1) (by first | omega | (simp only [lap, q1, q2, q3, q4, q5, q6, q7, q8, q9, q10, q11, q12]; omega)) (s := [40, 41] ++ (124 :: tl x)) (by rw [tl_app]; rfl) (ChD.or (d := 8) (ItD.ch (d := 8) ItD.empty) (cx 8 (by decide)) (by omega)) (by simp) c1 (fun u => (h1 u).trans ⟨.inr, fun h => h.elim (fun e => by rw [e]; exact W0) id⟩)
      refine ⟨.ref t, rfl, v1, rfl, v1, t1, rfl, I.i1, w1, by decide, fun Hb vb sb ib => ?_⟩
      have I := I.same sb
      have ob := Tr.rev_ok o1
      refine ⟨t, c, _, z, tl ("*+?" : Str), vb, t1.rev, 0, rfl, I.T, by rw [t1.rev_wt]; omega, ib, ob, by rw [t1.rev_wt]; exact w1, by decide, fun Hc xb kc Tc wb => ?_⟩
      have I := I.kp kc (Tc.mono (m := 100000 * i + 9000) (by rw [t1.rev_wt]; omega))
      have xbl := wb.len fun s h => Bare.len ob h
      have xbl : (tl xb).length ≤ 40 := by rw [t1.rev_wt] at xbl; omega
      have xbs : xb.length ≤ 40 := by rw [szx]; exact xbl
      refine ⟨.ref p1, rfl, nilI (rev_go al (I.la (p1, z1) (by simp)) c1 (by omega) (by omega) fun Hd p6 z6 s6 la6 c6 h6 => ?_)⟩
      have I := I.lang s6 la6
      refine ⟨by show 2 ≤ sizeLine; decide, fun b13 hb13 => ?_⟩
      have I := I.tup hb13 (x := xb) (p := p6) (zs := z6) (by omega) rfl (wb.topD (tl ("*+?" : Str)) sgs ob (by rw [t1.rev_wt]; exact w1) 8 (by decide)) (by simp) c6 (fun u => (h6 u).trans ((h1 _).trans (Tr.rev_W o1 u).symm))
      refine ⟨by show 3 ≤ sizeLine; decide, fun a4 ha4 => ?_⟩
      have I := I.lst ha4 [.ref b11, .ref b12, .ref b13]
      refine ⟨_, _, _, _, rfl, rfl, I.lq (e2, ([.ref b1, .ref b2, .ref b3] ++ [.ref b4, .ref b5, .ref b6, .ref b7]) ++ [.ref b8, .ref b9, .ref b10]) (by simp), I.lq (a4, [.ref b11, .ref b12, .ref b13]) (by simp), by show 13 ≤ sizeLine; decide, fun e3 he3 => ?_⟩
      have I := I.lst he3 ((([.ref b1, .ref b2, .ref b3] ++ [.ref b4, .ref b5, .ref b6, .ref b7]) ++ [.ref b8, .ref b9, .ref b10]) ++ [.ref b11, .ref b12, .ref b13])
      dsimp only [List.set]
      refine ⟨.str z, rfl, .ref e3, rfl, z, e3, _, rfl, al, SqL.of (I.lq (e3, _) List.mem_cons_self), fun v hv => I.ok v (by simpa using hv), fun H10 s10 => ?_⟩
      have I := I.same s10
      refine ⟨true, rfl, iteF ?_⟩
      have z1l := al.2.1
      have z3l := al.2.2.1
      refine ⟨.ref t, rfl, .str z, rfl, t, c, _, z, rfl, I.T, by omega, by rw [szx]; omega, by rw [szx]; omega, fun H11 d k11 T11 hd => fun y' ey => ?_⟩
      obtain rfl : one d = y' := V.str.inj ey
      have I := I.kp k11 T11
      dsimp only [List.set]
      have dl := al.2.2.2 d hd
      refine ⟨x, one d, rfl, rfl, ?_, ?_, ?_⟩
      · rw [beq_eq_false_iff_ne]
        intro e
        have e := congrArg Str.length e
        have e : (1 : Nat) = 2 := e
        omega
      · show x.length + (x.length + 1) * 2 ≤ 16777216
        omega
      have tls := tl_less x d
      generalize Txt.replace x (one d) "()" = less at tls ⊢
      have lel := lessL_len d (tl x)
      have wl : Wrp (t1.less d).lev (Bare (t1.less d)) 0 (tl less) := by
        rw [tls, Tr.less_lev]
        exact wx.less ⟨by omega, by omega⟩ fun s h => Bare.less ⟨by omega, by omega, by omega⟩ (fun e => by have := sgs d e; omega) o1 h
      have ol := Tr.less_ok d o1
      refine ⟨.str less, rfl, less, rfl, by rw [szx, tls]; omega, _, _, rfl, rfl, _, rfl, ite2 (fun e62 => ?_) (fun _ => ?_)⟩
      · have l60 : (tl less).length ≤ 60 := by
          have := of_decide_eq_true e62
          rw [szx] at this
          omega
        refine ⟨.str z, rfl, .str less, rfl, z, less, (t1.less d).W, (t1.less d).n, (t1.less d).l, rfl, al, l60, wl.topD (tl ("*+?" : Str)) sgs ol (by rw [Tr.less_wt]; exact w1) 8 (by decide), fun H12 p7 z7 s12 lp7 c7 h7 => ?_⟩
        have I := I.same s12
        have nl := (t1.less d).n18 (by rw [Tr.less_wt]; omega)
        refine ⟨.ref p1, rfl, nilI (sub_go al lp7.at (I.la (p1, z1) (by simp)) c7 c1 (by omega) fun tt H13 s13 e13 => ?_)⟩
        have I := I.same s13
        have : tt = true := e13.mpr fun u hu => (h1 u).mpr (Tr.less_W d t1 u ((h7 u).mp hu))
        subst this
        exact ⟨true, rfl, iteF ⟨_, _, _, _, _, _, _, _, _, _, _, _, _, _, rfl, I.T.mono (by omega)⟩⟩
      · exact ⟨_, _, _, _, _, _, _, _, _, _, _, _, _, _, rfl, I.T.mono (by omega)⟩
    · rintro σ H' ⟨y2, y3, y4, y5, y6, y7, y8, y9, y10, y11, y12, y13, y14, y15, rfl, _⟩
      exact k _
end
end DW
set_option maxHeartbeats 0
namespace DW
open PySem PySem.Spec PyProof.Rows L2
theorem df {K : PySem.W.Frag} {h : Heap} {mg : Str → Option Value} {x : Str} {st : Stmt} {ps : List Str} (X : K.In h) (G : h.Ns mainGlobals mg) (hf : ∃ fd, FunD K x x (defArgs st) (defBody st) (defScope st) [] [] (He.fAd K (x, none)) fd) (hg : (He.Fa.glo x).ok K = true)
    (b : ∀ (kV doc pm : Value) (an : Option Addr) (cdv ct : Value) (us : List Value), us.length = ps.length → bindArgs (PySem.W.fnOf x x (defArgs st) (defBody st) (defScope st) .none kV doc pm an cdv ct) ⟨us, []⟩ = pure (ps.zip us)) :
    ∃ D : Df K mg x st ps, D.f = He.fAd K (x, none) := by
  obtain ⟨fd, F⟩ := hf
  exact ⟨⟨He.fAd K (x, none), fd, F, He.glo_ok X G hg, F.bindsN b⟩, rfl⟩
theorem facts {w : World} {K : PySem.W.Frag} {h : Heap} {mg : Str → Option Value} {f : Addr} (X : K.In h) (G : h.Ns mainGlobals mg) (hfa : mg ("law" : Str) = some (.ref f)) (cx : EX.SaysX R.prog fa fn xs K) :
    ∃ fd : FuncData, (∀ (s : Shared) (v : Value), BindsTo s fd ⟨[v], []⟩ [("_law_script", v)]) ∧ ∀ base : Heap, K.In base → base.Ns mainGlobals mg → FnOk R.prog w K mg base CX0 49 f fd ["_law_script"] (spLaw K) := by
  have c := cx.d
  have e := hfa.symm.trans (He.glo_ok X G (c.fact 0 (f := .glo "law") rfl))
  cases e
  obtain ⟨D0, e0⟩ := df (st := sLaw) (ps := ["_law_script"]) X G (c.def_ 0 (d := mkD "law" sLaw) rfl) (c.fact 0 (f := .glo "law") rfl) fun _ _ _ _ _ _ us hl => match us, hl with | [_], _ => rfl
  obtain ⟨D1, e1⟩ := df (st := sWall) (ps := ["k"]) X G (c.def_ 1 (d := mkD "_wall" sWall) rfl) (c.fact 1 (f := .glo "_wall") rfl) fun _ _ _ _ _ _ us hl => match us, hl with | [_], _ => rfl
  obtain ⟨D2, e2⟩ := df (st := sIsAscending) (ps := ["letters"]) X G (c.def_ 2 (d := mkD "is_ascending" sIsAscending) rfl) (c.fact 2 (f := .glo "is_ascending") rfl) fun _ _ _ _ _ _ us hl => match us, hl with | [_], _ => rfl
  obtain ⟨D3, e3⟩ := df (st := sIsAlphabet) (ps := ["thing"]) X G (c.def_ 3 (d := mkD "is_alphabet" sIsAlphabet) rfl) (c.fact 3 (f := .glo "is_alphabet") rfl) fun _ _ _ _ _ _ us hl => match us, hl with | [_], _ => rfl
  obtain ⟨D4, e4⟩ := df (st := sIsWord) (ps := ["alphabet", "thing"]) X G (c.def_ 4 (d := mkD "is_word" sIsWord) rfl) (c.fact 4 (f := .glo "is_word") rfl) fun _ _ _ _ _ _ us hl => match us, hl with | [_, _], _ => rfl
  obtain ⟨D5, e5⟩ := df (st := sIsFactor) (ps := ["alphabet", "thing"]) X G (c.def_ 5 (d := mkD "is_factor" sIsFactor) rfl) (c.fact 5 (f := .glo "is_factor") rfl) fun _ _ _ _ _ _ us hl => match us, hl with | [_, _], _ => rfl
  obtain ⟨D6, e6⟩ := df (st := sIsProduct) (ps := ["alphabet", "thing"]) X G (c.def_ 6 (d := mkD "is_product" sIsProduct) rfl) (c.fact 6 (f := .glo "is_product") rfl) fun _ _ _ _ _ _ us hl => match us, hl with | [_, _], _ => rfl
  obtain ⟨D7, e7⟩ := df (st := sFormatFactor) (ps := ["factor"]) X G (c.def_ 7 (d := mkD "format_factor" sFormatFactor) rfl) (c.fact 7 (f := .glo "format_factor") rfl) fun _ _ _ _ _ _ us hl => match us, hl with | [_], _ => rfl
  obtain ⟨D8, e8⟩ := df (st := sFormatProduct) (ps := ["product"]) X G (c.def_ 8 (d := mkD "format_product" sFormatProduct) rfl) (c.fact 8 (f := .glo "format_product") rfl) fun _ _ _ _ _ _ us hl => match us, hl with | [_], _ => rfl
  obtain ⟨D9, e9⟩ := df (st := sLettersOf) (ps := ["factors"]) X G (c.def_ 9 (d := mkD "letters_of" sLettersOf) rfl) (c.fact 9 (f := .glo "letters_of") rfl) fun _ _ _ _ _ _ us hl => match us, hl with | [_], _ => rfl
  obtain ⟨D10, e10⟩ := df (st := sSwallows) (ps := ["factor", "other"]) X G (c.def_ 10 (d := mkD "swallows" sSwallows) rfl) (c.fact 10 (f := .glo "swallows") rfl) fun _ _ _ _ _ _ us hl => match us, hl with | [_, _], _ => rfl
  obtain ⟨D11, e11⟩ := df (st := sCovers) (ps := ["factor", "other"]) X G (c.def_ 11 (d := mkD "covers" sCovers) rfl) (c.fact 11 (f := .glo "covers") rfl) fun _ _ _ _ _ _ us hl => match us, hl with | [_, _], _ => rfl
  obtain ⟨D12, e12⟩ := df (st := sReduceProduct) (ps := ["product"]) X G (c.def_ 12 (d := mkD "reduce_product" sReduceProduct) rfl) (c.fact 12 (f := .glo "reduce_product") rfl) fun _ _ _ _ _ _ us hl => match us, hl with | [_], _ => rfl
  obtain ⟨D13, e13⟩ := df (st := sBehind) (ps := ["product", "place"]) X G (c.def_ 13 (d := mkD "behind" sBehind) rfl) (c.fact 13 (f := .glo "behind") rfl) fun _ _ _ _ _ _ us hl => match us, hl with | [_, _], _ => rfl
  obtain ⟨D14, e14⟩ := df (st := sPlaceBehind) (ps := ["product", "other", "start"]) X G (c.def_ 14 (d := mkD "place_behind" sPlaceBehind) rfl) (c.fact 14 (f := .glo "place_behind") rfl) fun _ _ _ _ _ _ us hl => match us, hl with | [_, _, _], _ => rfl
  obtain ⟨D15, e15⟩ := df (st := sIsIncluded) (ps := ["product", "other"]) X G (c.def_ 15 (d := mkD "is_included" sIsIncluded) rfl) (c.fact 15 (f := .glo "is_included") rfl) fun _ _ _ _ _ _ us hl => match us, hl with | [_, _], _ => rfl
  obtain ⟨D16, e16⟩ := df (st := sSubwordsProduct) (ps := ["word"]) X G (c.def_ 16 (d := mkD "subwords_product" sSubwordsProduct) rfl) (c.fact 16 (f := .glo "subwords_product") rfl) fun _ _ _ _ _ _ us hl => match us, hl with | [_], _ => rfl
  obtain ⟨D17, e17⟩ := df (st := sStarProduct) (ps := ["letters"]) X G (c.def_ 17 (d := mkD "star_product" sStarProduct) rfl) (c.fact 17 (f := .glo "star_product") rfl) fun _ _ _ _ _ _ us hl => match us, hl with | [_], _ => rfl
  obtain ⟨D18, e18⟩ := df (st := sIsInside) (ps := ["product", "products"]) X G (c.def_ 18 (d := mkD "is_inside" sIsInside) rfl) (c.fact 18 (f := .glo "is_inside") rfl) fun _ _ _ _ _ _ us hl => match us, hl with | [_, _], _ => rfl
  obtain ⟨D19, e19⟩ := df (st := sSizeOfProduct) (ps := ["product"]) X G (c.def_ 19 (d := mkD "size_of_product" sSizeOfProduct) rfl) (c.fact 19 (f := .glo "size_of_product") rfl) fun _ _ _ _ _ _ us hl => match us, hl with | [_], _ => rfl
  obtain ⟨D20, e20⟩ := df (st := sByWrittenForm) (ps := ["products"]) X G (c.def_ 20 (d := mkD "by_written_form" sByWrittenForm) rfl) (c.fact 20 (f := .glo "by_written_form") rfl) fun _ _ _ _ _ _ us hl => match us, hl with | [_], _ => rfl
  obtain ⟨D21, e21⟩ := df (st := sMaximalProducts) (ps := ["products"]) X G (c.def_ 21 (d := mkD "maximal_products" sMaximalProducts) rfl) (c.fact 21 (f := .glo "maximal_products") rfl) fun _ _ _ _ _ _ us hl => match us, hl with | [_], _ => rfl
  obtain ⟨D22, e22⟩ := df (st := sFormatProducts) (ps := ["products"]) X G (c.def_ 22 (d := mkD "format_products" sFormatProducts) rfl) (c.fact 22 (f := .glo "format_products") rfl) fun _ _ _ _ _ _ us hl => match us, hl with | [_], _ => rfl
  obtain ⟨D23, e23⟩ := df (st := sLanguageOfMaximal) (ps := ["alphabet", "products"]) X G (c.def_ 23 (d := mkD "language_of_maximal" sLanguageOfMaximal) rfl) (c.fact 23 (f := .glo "language_of_maximal") rfl) fun _ _ _ _ _ _ us hl => match us, hl with | [_, _], _ => rfl
  obtain ⟨D24, e24⟩ := df (st := sClosureOfWords) (ps := ["alphabet", "words"]) X G (c.def_ 24 (d := mkD "closure_of_words" sClosureOfWords) rfl) (c.fact 24 (f := .glo "closure_of_words") rfl) fun _ _ _ _ _ _ us hl => match us, hl with | [_, _], _ => rfl
  obtain ⟨D25, e25⟩ := df (st := sCheckAlphabets) (ps := ["one", "other"]) X G (c.def_ 25 (d := mkD "check_alphabets" sCheckAlphabets) rfl) (c.fact 25 (f := .glo "check_alphabets") rfl) fun _ _ _ _ _ _ us hl => match us, hl with | [_, _], _ => rfl
  obtain ⟨D26, e26⟩ := df (st := sCheckProducts) (ps := ["language", "limit"]) X G (c.def_ 26 (d := mkD "check_products" sCheckProducts) rfl) (c.fact 26 (f := .glo "check_products") rfl) fun _ _ _ _ _ _ us hl => match us, hl with | [_, _], _ => rfl
  obtain ⟨D27, e27⟩ := df (st := sIsSubset) (ps := ["one", "other"]) X G (c.def_ 27 (d := mkD "is_subset" sIsSubset) rfl) (c.fact 27 (f := .glo "is_subset") rfl) fun _ _ _ _ _ _ us hl => match us, hl with | [_, _], _ => rfl
  obtain ⟨D28, e28⟩ := df (st := sUnionOfAll) (ps := ["alphabet", "languages"]) X G (c.def_ 28 (d := mkD "union_of_all" sUnionOfAll) rfl) (c.fact 28 (f := .glo "union_of_all") rfl) fun _ _ _ _ _ _ us hl => match us, hl with | [_, _], _ => rfl
  obtain ⟨D29, e29⟩ := df (st := sUnion) (ps := ["one", "other"]) X G (c.def_ 29 (d := mkD "union" sUnion) rfl) (c.fact 29 (f := .glo "union") rfl) fun _ _ _ _ _ _ us hl => match us, hl with | [_, _], _ => rfl
  obtain ⟨D30, e30⟩ := df (st := sStarsAmong) (ps := ["factors"]) X G (c.def_ 30 (d := mkD "stars_among" sStarsAmong) rfl) (c.fact 30 (f := .glo "stars_among") rfl) fun _ _ _ _ _ _ us hl => match us, hl with | [_], _ => rfl
  obtain ⟨D31, e31⟩ := df (st := sMaximalTails) (ps := ["ends", "products"]) X G (c.def_ 31 (d := mkD "maximal_tails" sMaximalTails) rfl) (c.fact 31 (f := .glo "maximal_tails") rfl) fun _ _ _ _ _ _ us hl => match us, hl with | [_, _], _ => rfl
  obtain ⟨D32, e32⟩ := df (st := sMaximalHeads) (ps := ["products", "starts"]) X G (c.def_ 32 (d := mkD "maximal_heads" sMaximalHeads) rfl) (c.fact 32 (f := .glo "maximal_heads") rfl) fun _ _ _ _ _ _ us hl => match us, hl with | [_, _], _ => rfl
  obtain ⟨D33, e33⟩ := df (st := sConcatenation) (ps := ["one", "other"]) X G (c.def_ 33 (d := mkD "concatenation" sConcatenation) rfl) (c.fact 33 (f := .glo "concatenation") rfl) fun _ _ _ _ _ _ us hl => match us, hl with | [_, _], _ => rfl
  obtain ⟨D34, e34⟩ := df (st := sReversal) (ps := ["language"]) X G (c.def_ 34 (d := mkD "reversal" sReversal) rfl) (c.fact 34 (f := .glo "reversal") rfl) fun _ _ _ _ _ _ us hl => match us, hl with | [_], _ => rfl
  obtain ⟨D35, e35⟩ := df (st := sStar) (ps := ["language"]) X G (c.def_ 35 (d := mkD "star" sStar) rfl) (c.fact 35 (f := .glo "star") rfl) fun _ _ _ _ _ _ us hl => match us, hl with | [_], _ => rfl
  obtain ⟨D36, e36⟩ := df (st := sWrongIndex) (ps := ["alphabet", "text"]) X G (c.def_ 36 (d := mkD "wrong_index" sWrongIndex) rfl) (c.fact 36 (f := .glo "wrong_index") rfl) fun _ _ _ _ _ _ us hl => match us, hl with | [_, _], _ => rfl
  obtain ⟨D37, e37⟩ := df (st := sCheckExpression) (ps := ["alphabet", "thing"]) X G (c.def_ 37 (d := mkD "check_expression" sCheckExpression) rfl) (c.fact 37 (f := .glo "check_expression") rfl) fun _ _ _ _ _ _ us hl => match us, hl with | [_, _], _ => rfl
  obtain ⟨D38, e38⟩ := df (st := sReadOperand) (ps := ["alphabet", "text", "start"]) X G (c.def_ 38 (d := mkD "read_operand" sReadOperand) rfl) (c.fact 38 (f := .glo "read_operand") rfl) fun _ _ _ _ _ _ us hl => match us, hl with | [_, _, _], _ => rfl
  obtain ⟨D39, e39⟩ := df (st := sReadItem) (ps := ["alphabet", "text", "start"]) X G (c.def_ 39 (d := mkD "read_item" sReadItem) rfl) (c.fact 39 (f := .glo "read_item") rfl) fun _ _ _ _ _ _ us hl => match us, hl with | [_, _, _], _ => rfl
  obtain ⟨D40, e40⟩ := df (st := sReadAlternative) (ps := ["alphabet", "text", "start"]) X G (c.def_ 40 (d := mkD "read_alternative" sReadAlternative) rfl) (c.fact 40 (f := .glo "read_alternative") rfl) fun _ _ _ _ _ _ us hl => match us, hl with | [_, _, _], _ => rfl
  obtain ⟨D41, e41⟩ := df (st := sReadChoice) (ps := ["alphabet", "text", "start"]) X G (c.def_ 41 (d := mkD "read_choice" sReadChoice) rfl) (c.fact 41 (f := .glo "read_choice") rfl) fun _ _ _ _ _ _ us hl => match us, hl with | [_, _, _], _ => rfl
  obtain ⟨D42, e42⟩ := df (st := sClosureOfExpression) (ps := ["alphabet", "text"]) X G (c.def_ 42 (d := mkD "closure_of_expression" sClosureOfExpression) rfl) (c.fact 42 (f := .glo "closure_of_expression") rfl) fun _ _ _ _ _ _ us hl => match us, hl with | [_, _], _ => rfl
  obtain ⟨D43, e43⟩ := df (st := sBegin) (ps := ["_law_script"]) X G (c.def_ 43 (d := mkD "_law_begin" sBegin) rfl) (c.fact 43 (f := .glo "_law_begin") rfl) fun _ _ _ _ _ _ us hl => match us, hl with | [_], _ => rfl
  obtain ⟨D44, e44⟩ := df (st := sDraw) (ps := ["_law_tape", "_law_many"]) X G (c.def_ 44 (d := mkD "_law_draw" sDraw) rfl) (c.fact 44 (f := .glo "_law_draw") rfl) fun _ _ _ _ _ _ us hl => match us, hl with | [_, _], _ => rfl
  obtain ⟨D45, e45⟩ := df (st := sPick) (ps := ["_law_tape", "_law_items"]) X G (c.def_ 45 (d := mkD "_law_pick" sPick) rfl) (c.fact 45 (f := .glo "_law_pick") rfl) fun _ _ _ _ _ _ us hl => match us, hl with | [_, _], _ => rfl
  obtain ⟨D46, e46⟩ := df (st := sAlpha) (ps := ["_law_tape"]) X G (c.def_ 46 (d := mkD "_law_alphabet" sAlpha) rfl) (c.fact 46 (f := .glo "_law_alphabet") rfl) fun _ _ _ _ _ _ us hl => match us, hl with | [_], _ => rfl
  obtain ⟨D47, e47⟩ := df (st := sLTree) (ps := ["_law_tape", "_law_alphabet_here", "_law_signs", "_law_leaves"]) X G (c.def_ 47 (d := mkD "_law_tree" sLTree) rfl) (c.fact 47 (f := .glo "_law_tree") rfl) fun _ _ _ _ _ _ us hl => match us, hl with | [_, _, _, _], _ => rfl
  obtain ⟨D48, e48⟩ := df (st := sLWritten) (ps := ["_law_tape", "_law_tree_here", "_law_place"]) X G (c.def_ 48 (d := mkD "_law_written" sLWritten) rfl) (c.fact 48 (f := .glo "_law_written") rfl) fun _ _ _ _ _ _ us hl => match us, hl with | [_, _, _], _ => rfl
  obtain ⟨D49, e49⟩ := df (st := sLBackwards) (ps := ["_law_tree_here"]) X G (c.def_ 49 (d := mkD "_law_backwards" sLBackwards) rfl) (c.fact 49 (f := .glo "_law_backwards") rfl) fun _ _ _ _ _ _ us hl => match us, hl with | [_], _ => rfl
  obtain ⟨D50, e50⟩ := df (st := sLAllRight) (ps := ["_law_alphabet_here", "_law_pairs"]) X G (c.def_ 50 (d := mkD "_law_all_right" sLAllRight) rfl) (c.fact 50 (f := .glo "_law_all_right") rfl) fun _ _ _ _ _ _ us hl => match us, hl with | [_, _], _ => rfl
  obtain ⟨fdi, Fi⟩ := c.def_ 51 (d := ⟨("Language", some "__init__"), "__init__", "Language.__init__", defArgs sLangInit, defBody sLangInit, defScope sLangInit, [], []⟩) rfl
  obtain ⟨fd0, F0⟩ := c.def_ 52 (d := ⟨("Language", some "contains"), "contains", "Language.contains", defArgs sLangContains, defBody sLangContains, defScope sLangContains, [], []⟩) rfl
  obtain ⟨fd1, F1⟩ := c.def_ 53 (d := ⟨("Language", some "alphabet"), "alphabet", "Language.alphabet", defArgs sLangAlphabet, defBody sLangAlphabet, defScope sLangAlphabet, [], []⟩) rfl
  obtain ⟨fd2, F2⟩ := c.def_ 54 (d := ⟨("Language", some "products"), "products", "Language.products", defArgs sLangProducts, defBody sLangProducts, defScope sLangProducts, [], []⟩) rfl
  obtain ⟨fd3, F3⟩ := c.def_ 55 (d := ⟨("Language", some "is_empty"), "is_empty", "Language.is_empty", defArgs sLangEmpty, defBody sLangEmpty, defScope sLangEmpty, [], []⟩) rfl
  obtain ⟨fd4, F4⟩ := c.def_ 56 (d := ⟨("Language", some "is_full"), "is_full", "Language.is_full", defArgs sLangFull, defBody sLangFull, defScope sLangFull, [], []⟩) rfl
  obtain ⟨fd5, F5⟩ := c.def_ 57 (d := ⟨("Language", some "letters"), "letters", "Language.letters", defArgs sLangLetters, defBody sLangLetters, defScope sLangLetters, [], []⟩) rfl
  obtain ⟨fd6, F6⟩ := c.def_ 58 (d := ⟨("Language", some "__eq__"), "__eq__", "Language.__eq__", defArgs sLangEq, defBody sLangEq, defScope sLangEq, [], []⟩) rfl
  obtain ⟨fd7, F7⟩ := c.def_ 59 (d := ⟨("Language", some "__str__"), "__str__", "Language.__str__", defArgs sLangStr, defBody sLangStr, defScope sLangStr, [], []⟩) rfl
  let Cl0 : DfC K mg := ⟨He.ga K "Language", He.glo_ok X G (c.fact 72 (f := .glo "Language") rfl), He.cls_ok (c.fact 73 (f := .cls "Language") rfl), He.noat_ok (c.fact 74 (f := .noat "Language" "base") rfl), He.noat_ok (c.fact 75 (f := .noat "Language" "maximal") rfl),
    ⟨_, fdi, Fi, Fi.bindsN fun _ _ _ _ _ _ us hl => match us, hl with | [_, _, _], _ => rfl⟩, He.mkr_ok (c.fact 76 (f := .mkr "Language") rfl), ⟨_, fd0, F0, F0.bindsN fun _ _ _ _ _ _ us hl => match us, hl with | [_, _], _ => rfl⟩, He.meth_ok (c.fact 77 (f := .meth "Language" "contains") rfl)⟩
  let Cl2 : DfC2 K mg := ⟨Cl0, ⟨_, fd1, F1, F1.bindsN fun _ _ _ _ _ _ us hl => match us, hl with | [_], _ => rfl⟩, He.meth_ok (c.fact 78 (f := .meth "Language" "alphabet") rfl), ⟨_, fd2, F2, F2.bindsN fun _ _ _ _ _ _ us hl => match us, hl with | [_], _ => rfl⟩, He.meth_ok (c.fact 79 (f := .meth "Language" "products") rfl), ⟨_, fd3, F3, F3.bindsN fun _ _ _ _ _ _ us hl => match us, hl with | [_], _ => rfl⟩, He.meth_ok (c.fact 80 (f := .meth "Language" "is_empty") rfl), ⟨_, fd4, F4, F4.bindsN fun _ _ _ _ _ _ us hl => match us, hl with | [_], _ => rfl⟩, He.meth_ok (c.fact 81 (f := .meth "Language" "is_full") rfl), ⟨_, fd5, F5, F5.bindsN fun _ _ _ _ _ _ us hl => match us, hl with | [_], _ => rfl⟩, He.meth_ok (c.fact 82 (f := .meth "Language" "letters") rfl), ⟨_, fd6, F6, F6.bindsN fun _ _ _ _ _ _ us hl => match us, hl with | [_, _], _ => rfl⟩, He.meth_ok (c.fact 83 (f := .meth "Language" "__eq__") rfl), ⟨_, fd7, F7, F7.bindsN fun _ _ _ _ _ _ us hl => match us, hl with | [_], _ => rfl⟩, He.meth_ok (c.fact 84 (f := .meth "Language" "__str__") rfl)⟩
  have Cl : DfC3 K mg := ⟨Cl2, cx.own 0, cx.kty 0, cx.kty 1, cx.kty 2, cx.kty 3⟩
  have b := FunD.bindsA (ps := ["_law_script"]) D0.F fun _ _ _ _ _ _ us hl => match us, hl with | [_], _ => rfl
  refine ⟨D0.fd, fun s v => b s [v] rfl, fun base _ _ => ?_⟩
  have q := ok_law (P := R.prog) (w := w) (base := base) D0 ⟨D1, D2, D3, D4, D5, D6, D7, D8, D9, D10, D11, D12, D13, D14, D15, D16, D17, D18, D19, D20, D21, D22, D23, D24, D25, D26, D27, D28, D29, D30, D31, D32, D33, D34, D35, D36, D37, D38, D39, D40, D41, D42, D43, D44, D45, D46, D47, D48, D49, D50, ⟨He.free_ok X G (c.fact 55 (f := .free "len") rfl), He.free_ok X G (c.fact 60 (f := .free "range") rfl), He.free_ok X G (c.fact 57 (f := .free "sorted") rfl), He.free_ok X G (c.fact 58 (f := .free "set") rfl)⟩, He.free_ok X G (c.fact 51 (f := .free "all") rfl), He.free_ok X G (c.fact 52 (f := .free "zip") rfl), He.free_ok X G (c.fact 53 (f := .free "isinstance") rfl), He.free_ok X G (c.fact 54 (f := .free "str") rfl), He.free_ok X G (c.fact 56 (f := .free "tuple") rfl), He.free_ok X G (c.fact 59 (f := .free "reversed") rfl), He.free_ok X G (c.fact 61 (f := .free "list") rfl), He.free_ok X G (c.fact 62 (f := .free "enumerate") rfl), He.int_ok X G (c.fact 63 (f := .int "MOST_LETTERS" 3) rfl), He.int_ok X G (c.fact 64 (f := .int "AT_START" 0) rfl), He.int_ok X G (c.fact 65 (f := .int "IN_PARENTHESES" 1) rfl), He.int_ok X G (c.fact 66 (f := .int "BEHIND_ITEM" 2) rfl), He.int_ok X G (c.fact 67 (f := .int "MOST_CHARACTERS" 60) rfl), He.int_ok X G (c.fact 68 (f := .int "CLOSURE_LIMIT" 50) rfl), He.str_ok X G (c.fact 69 (f := .str "POSTFIX_OPERATORS" "*+?") rfl), He.str_ok X G (c.fact 70 (f := .str "EMPTY_FORM" "-") rfl), He.str_ok X G (c.fact 71 (f := .str "NO_WORDS" "none") rfl), Cl⟩
  rw [e0] at q
  exact q
end DW
open PySem PySem.W PySem.Calls PyProof.Rows
theorem PySem.Challenge.cw_downwords_k56_whole_expressions_put_toge_holds : PySem.Challenge.rw_downwords_k56_whole_expressions_put_toge.Holds := by
  w_on; o_law
  refine HandSHeadRun.head_any (r := OpenLaw.row PySem.Challenge.rw_downwords_k56_whole_expressions_put_toge) (q := view (OpenLaw.row PySem.Challenge.rw_downwords_k56_whole_expressions_put_toge).prog [73]) (H := DW.hk) (ob := DW.ob) (M := 4000) (loose := DW.names) (d := HandSHeadRun.topDef (OpenLaw.row PySem.Challenge.rw_downwords_k56_whole_expressions_put_toge).prog 73) (kwd := []) DW.ob_eq
    (by kernel_rfl) (fun s => by kernel_rfl) DW.run (by kernel_rfl) (by kernel_rfl) (by kernel_rfl) (by rfl) (by first | assumption | decide +kernel) (by decide +kernel) ⟨rfl, rfl, rfl, rfl, rfl, by decide +kernel⟩ ?hw ?hc
  case hw => w_witness2
  case hc =>
    refine L2.walk_ofE (l := PySem.Challenge.rw_downwords_k56_whole_expressions_put_toge) (n := 63) (k := 49) (x := "_law_script") (CX := L2.CX0) rfl (by decide) (by kernel_rfl) ⟨rfl, by decide, by decide⟩ ?F (fun _ _ _ _ z => z)
    intro w mg fa h Y G hmg0
    obtain ⟨K, KX, c⟩ := Y
    have hmg : mg ("law" : PySem.Str) = some (.ref fa) := by
      have e : (HandSHeadRun.topDef (OpenLaw.row PySem.Challenge.rw_downwords_k56_whole_expressions_put_toge).prog 73).name = ("law" : PySem.Str) := by kernel_rfl
      rw [← e]
      exact hmg0
    obtain ⟨fd, hb, hF⟩ := DW.facts (w := w) KX G hmg c
    exact ⟨K, fd, DW.spLaw K, KX, hb, fun H a ns hl _ hS => ⟨a, ns, rfl, hS, fun _ => rfl⟩, hF⟩
