import PyProof.Rows.All
import Wide.All
import OpenK.AllK
import Wide.FinOn
import HandS.List
import HandS.SetTxt0
import HandS.SetFor
import HandS.Strs
import HandS.Iter
import HandS.Walk
import KE.GoesMore
import KE.GoesZip
import HandS.Text
import PyProof.ListStr
import KE.KRevSl
import HandS.ForMost
import HandS.Codes
import HandS.IsInst
import KE.KCallOwn
import PyProof.InstNe
import PyProof.FString2
import KE.KExcSuper
import HandS.Nested
import HandS.Exc
import HandS.ExcOwn
import HandS.ExcInit
import KE.KExcIs
import HandS.FStr
import HandS.ExcField
import HandS.HeadHook1
import HandS.HeadHook2
import HandS.Defaults
import HandS.HeadEnd
import HandS.TupMul
import KE.DatumOrd
import HandS.SortKw
import KE.SortKeyHeap
import KE.SortData
import KE.GoesEnum
import HandS.Flow
import HandS.Small
import HandS.WordsExc
import HandS.RaiseMore
import HandS.Conv
import HandS.NoneIn
import HandS.TupAny
import KE.KeyNested
import KE.KDictKeyed
import PyProof.DictMoreH
import PyProof.DictRoadsH
import HandS.SetKeys
import KE.KDictCopyH
import KE.KDictSum
import HandS.More
import KE.KDictDisplayH
import KE.KDictPairs
import HandS.RevRange
import HandS.Deep
import KE.KStateDown
import Lean
import HandS.Head0
import HandS.Head1
import HandS.Head2
import PySem.Challenge.RW_downwords_k43_smallest_automata
set_option Elab.async false
set_option linter.all false
set_option maxRecDepth 100000
set_option maxHeartbeats 2000000
/-! Sets of texts: set(list of texts), set(text), sorted(set). -/
namespace TX
open PySem PySem.Spec PyProof.Rows L2 PySem.Froz

/-! ### lists -/
theorem perm_of_sub {α : Type} [DecidableEq α] : ∀ (l ks : List α), l.Nodup → (∀ x ∈ l, x ∈ ks) → ks.length ≤ l.length → ks.Perm l
  | [], ks, _, _, hl => by
    have e : ks = [] := List.length_eq_zero_iff.mp (Nat.le_zero.mp hl)
    rw [e]
  | x :: l, ks, nd, sub, hl => by
    obtain ⟨hx, nd'⟩ := List.nodup_cons.mp nd
    have hk : x ∈ ks := sub x List.mem_cons_self
    have p1 : ks.Perm (x :: ks.erase x) := List.perm_cons_erase hk
    have l1 : (ks.erase x).length = ks.length - 1 := List.length_erase_of_mem hk
    have sub' : ∀ y ∈ l, y ∈ ks.erase x := fun y hy => by
      have ne : y ≠ x := fun e => hx (e ▸ hy)
      exact (List.mem_erase_of_ne ne).mpr (sub y (List.mem_cons_of_mem _ hy))
    have p2 := perm_of_sub l (ks.erase x) nd' sub' (by rw [l1]; rw [List.length_cons] at hl; omega)
    exact p1.trans (p2.cons x)

/-! ### the set's state -/
structure Ok (P : Program) (w : World) (D : SD) (l : List Str) : Prop where
  tx : TxOk P w D l
  up : Ris D.2.2.place.toList
  led : w.params.followText "set-order" = true ∨ D.2.2.led = true
  nd : l.Nodup
def At (P : Program) (w : World) (h : Heap) (a : Addr) (l : List Str) : Prop := ∃ D : SD, h.get? a = some (sObj "set" D) ∧ Ok P w D l

section
variable {P : Program} {w : World} {A : Around} {E : Value → Shared → Prop} {s : Shared}
theorem At.move {h h' : Heap} {a : Addr} {l : List Str} (x : At P w h a l) (k : ∀ o, h.get? a = some o → h'.get? a = some o) : At P w h' a l := by
  obtain ⟨D, hD, o⟩ := x
  exact ⟨D, k _ hD, o⟩
theorem tail_up {ep : Nat} {es : Array (Int × Value)} {t : SetTable} {b : Bool} (r : Ris t.place.toList) : Ris (tailTx ep es t b).2.2.place.toList := by
  unfold tailTx
  by_cases c : (!b && t.tooFull) = true
  · rw [if_pos c]
    exact relayAll_ris _ _ _
  · rw [if_neg c]
    exact r
theorem tail_led {ep : Nat} {es : Array (Int × Value)} {t : SetTable} {b : Bool} : (tailTx ep es t b).2.2.led = t.led := by
  unfold tailTx
  by_cases c : (!b && t.tooFull) = true
  · rw [if_pos c]
    exact relayAll_led _ _ _
  · rw [if_neg c]
def dull (t : SetTable) : SetTable := if t.plain = true then { t with plain := false } else t
theorem dull_place (t : SetTable) : (dull t).place = t.place := by
  unfold dull
  by_cases c : t.plain = true
  · rw [if_pos c]
  · rw [if_neg c]
theorem dull_led (t : SetTable) : (dull t).led = t.led := by
  unfold dull
  by_cases c : t.plain = true
  · rw [if_pos c]
  · rw [if_neg c]
theorem Ok.add {D : SD} {l : List Str} {k : Str} (u : Tok) (o : Ok P w D l) (hk : k ∉ l) : Ok P w (addTx (hashStr w k) (.str k u) D) (k :: l) := by
  obtain ⟨es, ep, t⟩ := D
  have r1 : Ris (layNew t es (hashStr w k) (.str k u)).2.1.place.toList := layNew_ris t es _ _ o.up
  have l1 : (layNew t es (hashStr w k) (.str k u)).2.1.led = t.led := layNew_led t es _ _
  have e : addTx (hashStr w k) (.str k u) (es, ep, t) = tailTx ep (layNew t es (hashStr w k) (.str k u)).1 (dull (layNew t es (hashStr w k) (.str k u)).2.1) (layNew t es (hashStr w k) (.str k u)).2.2.1 := rfl
  refine ⟨add_ok u o.tx, ?_, ?_, List.nodup_cons.mpr ⟨hk, o.nd⟩⟩
  · rw [e]
    exact tail_up (by rw [dull_place]; exact r1)
  · refine o.led.imp id fun z => ?_
    rw [e, tail_led, dull_led, l1]
    exact z
theorem add_old {a : Addr} {T : String} {D : SD} {l : List Str} {k : Str} {u : Tok} {Q : Bool → Shared → Prop} (ho : s.heap.get? a = some (sObj T D)) (o : TxOk P w D l) (hk : k ∈ l) (hb : l.length < scanBound) (h : Q false s) :
    wpAny (model P w) A (setAddHashed a (.str k u) (hashStr w k)) Q E s := by
  obtain ⟨es, ep, t⟩ := D
  have dd : (sObj T (es, ep, t)).data = .set es ep t := rfl
  have ft : t.fits es.size = true := o.fit
  have el : ElemsOf (strKind P w) es.toList := o.el
  have z : es.size = l.length := o.sz
  have b0 : es.size < scanBound := by omega
  have ky : (strKind P w).is k (.str k u) = true := is_str k u
  obtain ⟨e0, he0, q0⟩ := (o.mem k).mp hk
  unfold setAddHashed setAddHashedIn
  refine wpAny_holding (wpAny_bind (wpAny_setState_of ho dd ft ?_))
  dsimp only
  rw [byScan_of rfl b0 el]
  simp only [↓reduceIte]
  unfold setAddByScan
  refine wpAny_bind (wpAny_bind (wpAny_rule (wpAny_bind (wpAny_setScan_of (knd := strKind P w) (k := k) ky ho dd ft el ?_))))
  cases fi : List.findIdx? (fun e => (strKind P w).is k e.2) es.toList with
  | some j =>
    dsimp only
    exact wpAny_pure (wpAny_pure h)
  | none =>
    have c := List.findIdx?_eq_none_iff.mp fi e0 he0
    rw [q0] at c
    cases c

/-! ### the loop that fills it -/
theorem fill {I : Addr} {fp wr : List Addr} {G : Array GenState → Array GenState → Prop} {n : Nat} {Pv : Nat → Value → Prop} {St : Nat → Shared → Prop} {R : Result → Shared → Prop}
    (W : WalksS P w A.in1 I fp wr G n Pv St) (a : Addr) (ha : a ∉ fp) (xs : List Str) (hn : n = xs.length) (hb : xs.length + 1 < scanBound) (hv : ∀ i v, Pv i v → ∃ k t, xs[i]? = some k ∧ v = .str k t) :
    ∀ (m i : Nat) (s : Shared), n - i = m → i ≤ n → St i s → (∃ l, At P w s.heap a l ∧ l.length ≤ i ∧ ∀ k, k ∈ l ↔ k ∈ xs.take i) →
      (∀ s' l, Moved (a :: wr) G s s' → At P w s'.heap a l → (∀ k, k ∈ l ↔ k ∈ xs) → l.length ≤ n → R (.ok (.ret .none)) s') →
      codeAny (model P w) A (.builtin "set.update.loop" ⟨[.ref a, .ref I], []⟩) R s := by
  have aw : a ∉ wr := fun q => ha (W.sub _ q)
  have ww : ∀ b ∈ wr, b ∈ a :: wr := fun b q => List.mem_cons_of_mem _ q
  intro m
  induction m with
  | zero =>
    intro i s em hi st ⟨l, hA, hl, mem⟩ hR
    obtain rfl : i = n := by omega
    refine codeAny_builtin F.entry_set_update_loop ?_
    rw [Around.under_plainId F.plain_set_update_loop _]
    show wpAny _ A.in1 (pyNext (.ref I) >>= _) _ _ s
    refine wpAny_bind (W.done s _ _ st fun s' mv => ?_)
    show wpAny _ A.in1 (ret Value.none) _ _ s'
    have et : xs.take i = xs := List.take_of_length_le (by omega)
    rw [et] at mem
    exact wpAny_pure (hR s' l (mv.mono ww) (hA.move fun o e => mv.heap a o aw e) mem hl)
  | succ m ih =>
    intro i s em hi st ⟨l, hA, hl, mem⟩ hR
    have lt : i < n := by omega
    refine codeAny_builtin F.entry_set_update_loop ?_
    rw [Around.under_plainId F.plain_set_update_loop _]
    show wpAny _ A.in1 (pyNext (.ref I) >>= _) _ _ s
    refine wpAny_bind (W.item i s _ _ lt st fun v s1 hP st1 mv => ?_)
    obtain ⟨k, t, hk, rfl⟩ := hv i v hP
    obtain ⟨D, hD, oD⟩ := hA.move (h' := s1.heap) fun o e => mv.heap a o aw e
    show wpAny _ A.in1 (holding [Value.str k t] (setAdd a (.str k t)) >>= _) _ _ s1
    refine wpAny_bind (wpAny_holding ?_)
    unfold setAdd
    refine wpAny_holding (wpAny_bind ((strKind P w).pyHash (k := k) (is_str k t) ?_))
    have tk : xs.take (i + 1) = xs.take i ++ [k] := by rw [List.take_add_one, hk] <;> rfl
    by_cases kl : k ∈ l
    · refine add_old (s := { s1 with toks := s1.toks + 1 }) hD oD.tx kl (by omega) ?_
      refine wpAny_pure ⟨plainId_quiet F.plain_set_update_loop _, ih (i + 1) _ (by omega) lt (W.frame _ s1 _ _ st1 (Nat.le_succ _) fun b _ o e => e) ⟨l, ⟨D, hD, oD⟩, by omega, fun j => ?_⟩ fun s2 l2 mv2 hA2 mem2 hl2 => ?_⟩
      · rw [tk, List.mem_append, List.mem_singleton, ← mem j]
        exact ⟨.inl, fun q => q.elim id fun e => e ▸ kl⟩
      · exact hR s2 l2 (Moved.trans W.gtrans ((mv.mono ww).then_heap (Nat.le_succ _) fun b o _ e => e) mv2) hA2 mem2 hl2
    · refine add_x (s := { s1 with toks := s1.toks + 1 }) hD oD.tx kl (by omega) ?_
      have hg : (s1.heap.update a (fun _ => sObj "set" (addTx (hashStr w k) (.str k t) D))).get? a = some (sObj "set" (addTx (hashStr w k) (.str k t) D)) := get_upd _ hD rfl
      have ot : ∀ b o, b ≠ a → s1.heap.get? b = some o → (s1.heap.update a (fun _ => sObj "set" (addTx (hashStr w k) (.str k t) D))).get? b = some o :=
        fun b o ne e => (Heap.get?_update_other _ _ (Ne.symm ne)).trans e
      refine wpAny_pure ⟨plainId_quiet F.plain_set_update_loop _, ih (i + 1) _ (by omega) lt (W.frame _ s1 _ _ st1 (Nat.le_succ _) fun b q o e => ?_) ⟨k :: l, ⟨_, hg, oD.add t kl⟩, by rw [List.length_cons]; omega, fun j => ?_⟩ fun s2 l2 mv2 hA2 mem2 hl2 => ?_⟩
      · exact ot b o (fun z => ha (z ▸ q)) e
      · rw [tk, List.mem_append, List.mem_singleton, ← mem j, List.mem_cons]
        exact Or.comm
      · refine hR s2 l2 (Moved.trans W.gtrans ((mv.mono ww).then_heap (Nat.le_succ _) fun b o q e => ?_) mv2) hA2 mem2 hl2
        exact ot b o (fun z => q (z ▸ List.mem_cons_self)) e
end

/-! ### set(v) -/
abbrev fresh (w : World) : Obj := { cls := .type "set", dict := none, data := .set #[] 0 (.fresh 0 0 (!w.params.followText "set-order")) }
theorem fresh_ok {P : Program} {w : World} : Ok P w (#[], 0, .fresh 0 0 (!w.params.followText "set-order")) [] where
  tx := TxOk.nil (by rfl)
  up := List.Pairwise.nil
  led := by
    show _ ∨ (!w.params.followText "set-order") = true
    cases w.params.followText "set-order"
    · exact .inr rfl
    · exact .inl rfl
  nd := List.nodup_nil
theorem at_fresh {P : Program} {w : World} {h : Heap} {a : Addr} (e : h.get? a = some (fresh w)) : At P w h a [] := ⟨(#[], 0, .fresh 0 0 (!w.params.followText "set-order")), e, fresh_ok⟩

section
variable {P : Program} {w : World} {A : Around} {E : Value → Shared → Prop} {s : Shared}
/-- what set(v) leaves: a new object, all else as it was -/
def Left (P : Program) (w : World) (s : Shared) (xs : List Str) (s' : Shared) : Prop :=
  ∃ h' tk l, s' = { s with heap := h', toks := tk } ∧ At P w h' s.heap.objs.size l ∧ (∀ k, k ∈ l ↔ k ∈ xs) ∧ l.length ≤ xs.length ∧ ∀ b o, s.heap.get? b = some o → h'.get? b = some o
set_option maxHeartbeats 4000000 in
theorem call_set_of {v : Value} {xs : List Str} {Q : Value → Shared → Prop}
    (hI : ∀ A' : Around, A'.handled = A.handled → wpAny (model P w) A' (Builtin.«set.__init__» ⟨[.ref s.heap.objs.size, v], []⟩) (fun f s2 => f = .done (.ret .none) ∧ Left P w s xs s2) E { s with heap := s.heap.push (fresh w) })
    (h : ∀ s', Left P w s xs s' → Q (.ref s.heap.objs.size) s') :
    wpAny (model P w) A (call (.type "set") [v]) Q E s := by
  obtain ⟨c, tl, hmro⟩ := F.called_set.mro
  have hmade := F.called_set.made
  have hsub := F.called_set.sub
  refine wpAny_call (codeAny_of_tree ?_)
  show wpAny _ _ (callAny (.type "set") _) _ _ _
  refine wpAny_pure ⟨Code.quiet_builtin _ (by decide +kernel), codeAny_builtin F.entry_type_call ?_⟩
  rw [Around.under_plain (weight_type_call_type "set" [v] []) rfl]
  have h1 := F.called_set.notType
  have h2 := F.called_set.canCreate
  have hct := F.typeCall_set_1 v
  repeat (any_goals (first | assumption | wp_step))
  refine codeAny_mono (code_set_led1 v (E := E) (Q₁ := fun obj s₁ => obj = .ref s.heap.objs.size ∧ s₁ = { s with heap := s.heap.push (fresh w) }) ⟨rfl, rfl⟩) fun r s₁ hr => ?_
  cases r with
  | error e => exact hr
  | ok fl =>
    cases fl with
    | ret obj =>
      obtain ⟨rfl, rfl⟩ := hr
      have hS : (s.heap.push (fresh w)).get? s.heap.objs.size = some (fresh w) := Heap.get?_push_size _ rfl
      have hT : Shared.TypeIs { s with heap := s.heap.push (fresh w) } (.ref s.heap.objs.size) "set" := ⟨_, hS, rfl⟩
      have hli := F.called_set.init.lookup
      have hbi := F.called_set.init.bind (.ref s.heap.objs.size)
      repeat (any_goals (first | assumption | wp_step))
      refine codeAny_mono (codeAny_call_builtin (R := wants (fun r s₂ => r = .none ∧ Left P w s xs s₂) E) F.called_set.init.plain F.entry_set_init (check_set_init_1 hT ?_)) fun r₂ s₂ hr₂ => ?_
      · refine wpAny_mono (hI A.in1.in1 (by simp)) (fun f s2 q => ?_) fun e s2 q => q
        obtain ⟨rfl, q⟩ := q
        exact ⟨rfl, q⟩
      · cases r₂ with
        | error e => exact hr₂
        | ok fl₂ =>
          cases fl₂ with
          | ret r =>
            obtain ⟨rfl, hL⟩ := hr₂
            repeat (any_goals (first | assumption | wp_step))
            exact h _ hL
          | _ => exact hr₂.elim
    | _ => exact hr.elim
theorem left_of {a : Addr} {wr : List Addr} {xs l : List Str} {s s1 s' : Shared} (ea : a = s.heap.objs.size) (hw : ∀ b ∈ wr, s.heap.objs.size ≤ b) (k1 : ∀ b o, s.heap.get? b = some o → s1.heap.get? b = some o)
    (eg : s1.gens = s.gens) (ed : s1.drawn = s.drawn) (eo : s1.os = s.os) (mv : Moved (a :: wr) (fun x y => y = x) s1 s') (hA : At P w s'.heap a l) (mem : ∀ k, k ∈ l ↔ k ∈ xs) (hl : l.length ≤ xs.length) : Left P w s xs s' := by
  obtain ⟨h', g', d', tk', os'⟩ := s'
  have e1 : g' = s.gens := mv.gens.trans eg
  have e2 : d' = s.drawn := mv.drawn.trans ed
  have e3 : os' = s.os := mv.os.trans eo
  subst e1 e2 e3 ea
  refine ⟨h', tk', l, rfl, hA, mem, hl, fun b o e => ?_⟩
  have lt : b < s.heap.objs.size := Heap.lt_size e
  refine mv.heap b o (fun z => ?_) (k1 b o e)
  rcases List.mem_cons.mp z with z | z
  · exact absurd z (Nat.ne_of_lt lt)
  · exact absurd (hw b z) (Nat.not_le_of_lt lt)
set_option maxHeartbeats 4000000 in
theorem init_list {l : Addr} {items : Array Value} {xs : List Str} (hh : A.handled = none) (hl : s.heap.IsList l items) (hi : StrsAre items.toList xs) (hb : xs.length + 1 < scanBound) :
    wpAny (model P w) A (Builtin.«set.__init__» ⟨[.ref s.heap.objs.size, .ref l], []⟩) (fun f s2 => f = .done (.ret .none) ∧ Left P w s xs s2) E { s with heap := s.heap.push (fresh w) } := by
  have hsz : xs.length = items.size := by rw [← StrsAre.len_eq hi, Array.length_toList]
  have hv : ∀ (i : Nat) (v : Value), items[i]? = some v → ∃ k t, xs[i]? = some k ∧ v = .str k t := fun i v q => by
    have hi' : i < xs.length := by rw [hsz]; exact (Array.getElem?_eq_some_iff.mp q).1
    obtain ⟨t, e⟩ := SS.strs_at hi i v (by rw [Array.getElem?_toList]; exact q)
    refine ⟨xs[i], t, List.getElem?_eq_getElem hi', ?_⟩
    rw [e, List.getD_eq_getElem?_getD, List.getElem?_eq_getElem hi'] <;> rfl
  have hS : (s.heap.push (fresh w)).get? s.heap.objs.size = some (fresh w) := Heap.get?_push_size _ rfl
  have hT : Shared.TypeIs { s with heap := s.heap.push (fresh w) } (.ref s.heap.objs.size) "set" := ⟨_, hS, rfl⟩
  obtain ⟨ol, hol, hcl, nl, hdl⟩ := id hl
  obtain ⟨ocls, odict, odata, oslots⟩ := ol
  simp only at hcl hdl
  subst hcl; subst hdl
  have hol1 : (s.heap.push (fresh w)).get? l = some { cls := .type "list", dict := odict, data := .seq items nl, slots := oslots } := Heap.get?_push_of_some _ hol
  have f1 := F.sub_list_set
  have f2 := F.sub_list_frozenset
  have f3 : (Value.type "list" == Value.type "dict") = false := by decide
  have hl1 : (s.heap.push (fresh w)).IsList l items := ⟨_, hol1, rfl, nl, rfl⟩
  have lS : l < s.heap.objs.size := Heap.lt_size hol
  have nI : l ≠ (s.heap.push (fresh w)).objs.size := by
    rw [Heap.size_push]
    exact Nat.ne_of_lt (Nat.lt_succ_of_lt lS)
  have nS : s.heap.objs.size ∉ [(s.heap.push (fresh w)).objs.size, l] := by
    rw [Heap.size_push]
    intro q
    rcases List.mem_cons.mp q with q | q
    · exact absurd q (Nat.ne_of_lt (Nat.lt_succ_self _))
    · exact absurd (List.mem_singleton.mp q) (Nat.ne_of_gt lS)
  have z1 : (s.heap.push (fresh w)).objs.size = s.heap.objs.size + 1 := Heap.size_push ..
  unfold Builtin.«set.__init__» noKeywords Builtin.Frozenset.updateFrom
  generalize ePI : pyIter = PI
  wp_walk
  subst ePI
  refine wpAny_pyIter_list hl1 ?_
  refine wpAny_bind (wpAny_runValue ?_)
  refine fill ((Walks.list (by simp [hh]) _ l nI items).toS) s.heap.objs.size nS xs hsz.symm hb hv (items.size - 0) 0 _ rfl (Nat.zero_le _)
    ⟨⟨_, Heap.get?_push_size _ rfl, rfl, rfl⟩, hl1.push _⟩ ⟨[], at_fresh (Heap.get?_push_of_some _ hS), Nat.le_refl _, fun k => by simp⟩ fun s' m mv hA mem hm => ?_
  show wpAny _ _ _ _ _ _
  refine wpAny_pure ?_
  show wpAny _ _ (ret Value.none) _ _ _
  refine wpAny_pure ⟨rfl, left_of (wr := [_]) rfl ?_ ?k1 ?e1 ?e2 ?e3 mv hA mem (by omega)⟩
  case k1 => exact fun b o e => Heap.get?_push_of_some _ (Heap.get?_push_of_some _ e)
  case e1 => rfl
  case e2 => rfl
  case e3 => rfl
  intro b q
  rw [List.mem_singleton.mp q]
  show _ ≤ (s.heap.push (fresh w)).objs.size
  rw [z1]
  exact Nat.le_succ _
set_option maxHeartbeats 4000000 in
theorem init_text {x : Str} {t : Tok} (hh : A.handled = none) (hb : x.length + 1 < scanBound) :
    wpAny (model P w) A (Builtin.«set.__init__» ⟨[.ref s.heap.objs.size, .str x t], []⟩) (fun f s2 => f = .done (.ret .none) ∧ Left P w s (x.cps.toList.map fun c => (⟨#[c]⟩ : Str)) s2) E { s with heap := s.heap.push (fresh w) } := by
  have hsz : (x.cps.toList.map fun c => (⟨#[c]⟩ : Str)).length = x.cps.size := by rw [List.length_map, Array.length_toList]
  have hx : x.length = x.cps.size := rfl
  have hv : ∀ (i : Nat) (v : Value), SignAt x i v → ∃ k t, (x.cps.toList.map fun c => (⟨#[c]⟩ : Str))[i]? = some k ∧ v = .str k t := fun i v ⟨c, u, q, e⟩ => by
    refine ⟨⟨#[c]⟩, u, ?_, e⟩
    rw [List.getElem?_map, Array.getElem?_toList, q] <;> rfl
  have hS : (s.heap.push (fresh w)).get? s.heap.objs.size = some (fresh w) := Heap.get?_push_size _ rfl
  have hT : Shared.TypeIs { s with heap := s.heap.push (fresh w) } (.ref s.heap.objs.size) "set" := ⟨_, hS, rfl⟩
  have hTx : Shared.TypeIs { s with heap := s.heap.push (fresh w) } (.str x t) "str" := typeIs_str _ x t
  have f1 := PySem.F.sub_str_set
  have f2 := PySem.F.sub_str_frozenset
  have f3 : (Value.type "str" == Value.type "dict") = false := by decide
  have z1 : (s.heap.push (fresh w)).objs.size = s.heap.objs.size + 1 := Heap.size_push ..
  unfold Builtin.«set.__init__» noKeywords Builtin.Frozenset.updateFrom
  generalize ePI : pyIter = PI
  wp_walk
  subst ePI
  refine wpAny_pyIter_str fun o St W st => ?_
  refine wpAny_bind (wpAny_runValue ?_)
  refine fill ((W _ (by simp [hh])).toS) s.heap.objs.size (by rw [z1]; simp) _ hsz.symm (by rw [hsz, ← hx]; exact hb) hv (x.cps.size - 0) 0 _ rfl (Nat.zero_le _)
    st ⟨[], at_fresh (Heap.get?_push_of_some _ hS), Nat.le_refl _, fun k => by simp⟩ fun s' m mv hA mem hm => ?_
  show wpAny _ _ _ _ _ _
  refine wpAny_pure ?_
  show wpAny _ _ (ret Value.none) _ _ _
  refine wpAny_pure ⟨rfl, left_of (wr := [_]) rfl ?_ ?k1 ?e1 ?e2 ?e3 mv hA mem (by rw [hsz]; exact hm)⟩
  case k1 => exact fun b o e => Heap.get?_push_of_some _ (Heap.get?_push_of_some _ e)
  case e1 => rfl
  case e2 => rfl
  case e3 => rfl
  intro b q
  rw [List.mem_singleton.mp q]
  show _ ≤ (s.heap.push (fresh w)).objs.size
  rw [z1]
  exact Nat.le_succ _

/-! ### sorted(set) -/
theorem texts_of {es : List (Int × Value)} (el : ElemsOf (strKind P w) es) : ∀ vs : List Value, (∀ v ∈ vs, v ∈ es.map (·.2)) → ∃ ks : List Str, StrsAre vs ks ∧ (∀ k, k ∈ ks ↔ ∃ v ∈ vs, (strKind P w).is k v = true) ∧ ks.length = vs.length
  | [], _ => ⟨[], .nil, fun k => by simp, rfl⟩
  | v :: vs, h => by
    obtain ⟨ks, h1, h2, h3⟩ := texts_of el vs fun u q => h u (List.mem_cons_of_mem _ q)
    obtain ⟨e, he, ev⟩ := List.mem_map.mp (h v List.mem_cons_self)
    obtain ⟨⟨k, hk, _⟩, _⟩ := el e he
    rw [ev] at hk
    obtain ⟨t, rfl⟩ := Value.isStrOf_shape hk
    refine ⟨k :: ks, .cons k t h1, fun j => ?_, by rw [List.length_cons, List.length_cons, h3]⟩
    rw [List.mem_cons, h2 j]
    constructor
    · rintro (q | ⟨u, hu, q⟩)
      · exact ⟨_, List.mem_cons_self, by rw [q]; exact hk⟩
      · exact ⟨u, List.mem_cons_of_mem _ hu, q⟩
    · rintro ⟨u, hu, q⟩
      rcases List.mem_cons.mp hu with z | z
      · rw [z] at q
        exact .inl ((strKind P w).inj _ _ _ q hk)
      · exact .inr ⟨u, z, q⟩
theorem sorted_at {a : Addr} {l : List Str} {Q : Value → Shared → Prop} (R : At P w s.heap a l) (hh : A.handled = none) (h64 : l.length < 64)
    (hQ : ∀ s' p (out : Array Value) (c : Nat) (ys : List Str), (∀ b o, s.heap.get? b = some o → s'.heap.get? b = some o) → s'.gens = s.gens → s'.os = s.os → s.heap.objs.size ≤ p →
      s'.heap.get? p = some (seqObj "list" out c) → StrsAre out.toList ys → ys.Perm l → sortedS ys = true → Q (.ref p) s') :
    wpAny (model P w) A (call (.builtin "sorted") [.ref a]) Q E s := by
  obtain ⟨⟨es, ep, t⟩, ho, ok⟩ := R
  have ft : t.fits es.size = true := ok.tx.fit
  have z : es.size = l.length := ok.tx.sz
  have sb : es.size < scanBound := by
    unfold scanBound
    omega
  refine Calls.call_function_entry kind_sorted plain_sorted entry_sorted (args_sorted1 _) ?_
  unfold Builtin.«sorted»
  refine wpAny_bind (m := checkCount "sorted" 1 1 _) (wpAny_pure ?_)
  refine wpAny_bind (collect_set (A := A.in1) hh ⟨_, ho, rfl, rfl⟩ ft sb ok.up ok.led fun s1 vs k1 hz g1 o1 pm => ?_)
  obtain ⟨ks, hS, mem, hlen⟩ := texts_of ok.tx.el vs fun v hv => pm.mem_iff.mp hv
  have vl : vs.length = l.length := by rw [pm.length_eq, List.length_map, Array.length_toList]; exact z
  have pk : ks.Perm l := perm_of_sub l ks ok.nd (fun k hk => by
    obtain ⟨e, he, q⟩ := (ok.tx.mem k).mp hk
    exact (mem k).mpr ⟨e.2, pm.mem_iff.mpr (List.mem_map.mpr ⟨e, he, rfl⟩), q⟩) (by omega)
  refine wpAny_bind (wpAny_newList ?_ (by rw [vl, sizeLine_eq]; omega))
  have hoL : (s1.heap.push (seqObj "list" vs.toArray 0)).get? s1.heap.objs.size = some (seqObj "list" vs.toArray 0) := Heap.get?_push_size _ rfl
  refine wpAny_bind (wpAny_holding (wpAny_call_entry slot_list_sort ⟨_, hoL, rfl⟩ entry_list_sort
    (list_sort_treeK strKind_oneLt hoL hS.keysOf (fun v₁ v₂ rest e => keyKind_strs (by rw [← e]; exact hS)) (by rw [vl]; exact h64) fun st' hp hs => ?_) (args_list_sort _)))
  obtain ⟨ys, y1, y2, y3⟩ := sorted_out_str hS hp hs
  obtain ⟨c, hc⟩ := sortedHeap_at (vs := vs) (out := Array.map (fun x => x.snd) (arrOf st')) hoL
  refine ⟨_, rfl, wpAny_pure ⟨_, rfl, hQ _ s1.heap.objs.size _ c ys (fun b u e => ?_) g1 o1 hz hc y1 (y2.trans pk) y3⟩⟩
  have q := k1 b u e
  have lt := Heap.lt_size q
  show (sortedHeap (s1.heap.push (seqObj "list" vs.toArray 0)) s1.heap.objs.size vs _).get? b = some u
  rw [sortedHeap_old (Nat.ne_of_lt lt) (by rw [Heap.size_push]; exact Nat.lt_succ_of_lt lt)]
  exact Heap.get?_push_of_some _ q
end

/-! ### over the layer -/
def SetTx (P : Program) (w : World) (a : Addr) (l : List Str) : HO := .ext fun h => At P w h a l
theorem setTx_new {P : Program} {w : World} {H : Hp} {h : Heap} {a : Addr} {l : List Str} (R : At P w h a l) : ObjOk P w H h a (SetTx P w a l) := by
  have ⟨D, hD, _⟩ := R
  exact ⟨R, ⟨_, hD⟩, fun h1 h2 p k => At.move p k⟩
section
variable {X : Cx}
/-- set(xs), xs a list of texts -/
def rSetL (K : PySem.W.Frag) (P : Program) (w : World) : List V → Hp → VK → Prop := fun xs H Q => ∃ (l : Addr) (ss : List Str), xs = [V.ref l] ∧ SqL K H l (ss.map V.str) ∧ ss.length + 1 < scanBound ∧
  ∀ (a : Addr) (ls : List Str), H a = none → ls.Nodup → (∀ k, k ∈ ls ↔ k ∈ ss) → ls.length ≤ ss.length → Q (.ref a) (upd H a (SetTx P w a ls))
theorem At.nd {P : Program} {w : World} {h : Heap} {a : Addr} {l : List Str} (x : At P w h a l) : l.Nodup := by
  obtain ⟨D, _, o⟩ := x
  exact o.nd
theorem cr_setL (hc : X.calm = true) : CallR X (.type "set") (rSetL X.K X.prog X.w) := by
  intro pins s σ H xs us Q I r h
  obtain ⟨l, ss, rfl, hs, hb, q⟩ := h
  obtain ⟨its, rv, hl, _⟩ := I.list hs
  rw [Vals.ref1 r]
  have hn : H s.heap.objs.size = none := I.hok.fresh (Nat.le_refl _)
  refine call_set_of (xs := ss) (fun A' e => init_list (e.trans (I.ok.hd hc)) hl.isList rv.strs hb) fun s' L => ?_
  obtain ⟨h', tk, ls, rfl, hA, mem, hlen, kp⟩ := L
  exact ⟨.ref s.heap.objs.size, upd H s.heap.objs.size (SetTx X.prog X.w s.heap.objs.size ls), I.laid (t' := tk) kp (Nat.le_refl _) (setTx_new hA), rfl, q _ ls hn hA.nd mem hlen⟩
def signs (x : Str) : List Str := x.cps.toList.map fun c => (⟨#[c]⟩ : Str)
/-- set(x), x a text -/
def rSetT (P : Program) (w : World) : List V → Hp → VK → Prop := fun xs H Q => ∃ (x : Str), xs = [V.str x] ∧ x.length + 1 < scanBound ∧
  ∀ (a : Addr) (ls : List Str), H a = none → ls.Nodup → (∀ k, k ∈ ls ↔ k ∈ signs x) → ls.length ≤ x.length → Q (.ref a) (upd H a (SetTx P w a ls))
theorem cr_setT (hc : X.calm = true) : CallR X (.type "set") (rSetT X.prog X.w) := by
  intro pins s σ H xs us Q I r h
  obtain ⟨x, rfl, hb, q⟩ := h
  obtain ⟨t, rfl⟩ : ∃ t, us = [Value.str x t] := by
    cases r with
    | cons r1 r2 =>
      cases r2
      obtain ⟨t, rfl⟩ := r1
      exact ⟨t, rfl⟩
  have hn : H s.heap.objs.size = none := I.hok.fresh (Nat.le_refl _)
  refine call_set_of (xs := x.cps.toList.map fun c => (⟨#[c]⟩ : Str)) (fun A' e => init_text (e.trans (I.ok.hd hc)) hb) fun s' L => ?_
  obtain ⟨h', tk, ls, rfl, hA, mem, hlen, kp⟩ := L
  rw [List.length_map, Array.length_toList] at hlen
  exact ⟨.ref s.heap.objs.size, upd H s.heap.objs.size (SetTx X.prog X.w s.heap.objs.size ls), I.laid (t' := tk) kp (Nat.le_refl _) (setTx_new hA), rfl, q _ ls hn hA.nd mem hlen⟩
/-- sorted(found) of texts, fewer than 64 -/
def rSortTx (P : Program) (w : World) : List V → Hp → VK → Prop := fun vs H Q => ∃ (a : Addr) (l : List Str), vs = [V.ref a] ∧ H a = some (SetTx P w a l) ∧ l.length < 64 ∧
  ∀ (ys : List Str) (p : Addr), ys.Perm l → sortedS ys = true → H p = none → Q (.ref p) (upd H p (.lst (ys.map V.str)))
theorem cr_sortTx (hc : X.calm = true) : CallR X (.builtin "sorted") (rSortTx X.prog X.w) := by
  intro pins s σ H vs us Q I r h
  obtain ⟨a, l, rfl, ha, h64, q⟩ := h
  have R : At X.prog X.w s.heap a l := (I.hok a _ ha).1
  rw [Vals.ref1 r]
  refine sorted_at R (I.ok.hd hc) h64 fun s' p out c ys k g o hp hg hi pm so => ?_
  have hlen : (ys.map V.str).length ≤ sizeLine := by
    rw [List.length_map, pm.length_eq, sizeLine_eq]
    omega
  have hn : H p = none := I.hok.fresh hp
  have J : Inv X pins σ (upd H p (.lst (ys.map V.str))) { s with heap := s'.heap, gens := s'.gens, drawn := s'.drawn, toks := s'.toks } :=
    I.call (ch := []) (Un.laid k hp hn) (I.hok.laid k hp ⟨hlen, out.toList, c, vals_of_strs hi, hg⟩) (by rw [g]; exact I.bare) (fun _ z => nomatch z)
  have e : s' = { s with heap := s'.heap, gens := s'.gens, drawn := s'.drawn, toks := s'.toks } := by
    cases s'
    cases s
    cases o
    rfl
  rw [e]
  exact ⟨.ref p, _, J, rfl, q ys p pm so hn⟩
end
end TX
namespace DW
open PySem PySem.Spec PyProof.Rows L2
def topS (i : Nat) : Stmt := PySem.Challenge.pw_downwords_k43_smallest_automata.main.body.getD i (.Pass ⟨0, 0, 0, 0⟩)
abbrev sWall : Stmt := topS 0
abbrev sIsAscending : Stmt := topS 8
abbrev sIsAlphabet : Stmt := topS 9
abbrev sIsWord : Stmt := topS 10
abbrev sIsFactor : Stmt := topS 13
abbrev sIsProduct : Stmt := topS 14
abbrev sFormatFactor : Stmt := topS 15
abbrev sFormatProduct : Stmt := topS 16
abbrev sLettersOf : Stmt := topS 17
abbrev sSwallows : Stmt := topS 18
abbrev sCovers : Stmt := topS 19
abbrev sReduceProduct : Stmt := topS 20
abbrev sBehind : Stmt := topS 21
abbrev sPlaceBehind : Stmt := topS 22
abbrev sIsIncluded : Stmt := topS 23
abbrev sSubwordsProduct : Stmt := topS 24
abbrev sIsInside : Stmt := topS 25
abbrev sSizeOfProduct : Stmt := topS 26
abbrev sByWrittenForm : Stmt := topS 27
abbrev sMaximalProducts : Stmt := topS 28
abbrev sFormatProducts : Stmt := topS 32
abbrev sLanguageOfMaximal : Stmt := topS 33
abbrev sNumberOfFactors : Stmt := topS 34
abbrev sCheckFactors : Stmt := topS 35
abbrev sRestsBehind : Stmt := topS 37
abbrev sDerivative : Stmt := topS 38
abbrev sAutomaton : Stmt := topS 41
abbrev sBegin : Stmt := topS 43
abbrev sDraw : Stmt := topS 44
abbrev sPick : Stmt := topS 45
abbrev sAlpha : Stmt := topS 46
abbrev sFactor : Stmt := topS 47
abbrev sProduct : Stmt := topS 48
abbrev sLProducts : Stmt := topS 49
abbrev sLPlaceBehind : Stmt := topS 50
abbrev sLPlacesBehind : Stmt := topS 51
abbrev sLStart : Stmt := topS 52
abbrev sLMachine : Stmt := topS 53
abbrev sLClasses : Stmt := topS 54
abbrev sLSmallest : Stmt := topS 55
abbrev sLaw : Stmt := topS 56
end DW
/-! zip(text, text) -/
namespace ZX
open PySem PySem.Spec PyProof.Rows L2
/-- the signs of two texts, side by side, in new pairs -/
def Itx (x y : Str) : It :=
  ⟨fun i _ => i < x.cps.size ∧ i < y.cps.size,
    fun i H v H' => ∃ (T : Addr) (c d : Nat), v = .ref T ∧ H T = none ∧ H' = upd H T (.tup [.str ⟨#[c]⟩, .str ⟨#[d]⟩]) ∧ x.cps[i]? = some c ∧ y.cps[i]? = some d,
    fun i _ => i = min x.cps.size y.cps.size⟩
theorem turn_zipX {P : Program} {w : World} {K : PySem.W.Frag} {elts : List Expr} {kk : Nat} {tpos : Pos} {x y : Str} {t u : Tok} {z TI TO i1 i2 : Addr} (S : ZipSep2 z TI TO i1 i2 [i1] [i2]) :
    Turn P w K (.Tuple elts kk tpos) (Itx x y) [z, TI, TO, i1, i2] z (fun i h => IsZip h z TI TO .none ∧ IsTupOf2 h TI (.ref i1) (.ref i2) ∧ (∃ a b, IsTupOf2 h TO a b) ∧ h.IsStrIter i1 (strIterType x) x t i ∧ h.IsStrIter i2 (strIterType y) y u i) where
  mem := by simp
  obj := fun i h st c hc => by
    obtain ⟨hz, hTI, ⟨a, b, hTO⟩, ⟨o1, e1, _, d1⟩, ⟨o2, e2, _, d2⟩⟩ := st
    have e' : c = z ∨ c = TI ∨ c = TO ∨ c = i1 ∨ c = i2 := by simpa using hc
    rcases e' with q | q | q | q | q
    · rw [q]; exact ⟨_, hz, fun v q => nomatch q⟩
    · rw [q]; exact ⟨_, hTI, fun v q => nomatch q⟩
    · rw [q]; exact ⟨_, hTO, fun v q => nomatch q⟩
    · rw [q]; exact ⟨o1, e1, fun v q => by rw [d1] at q; cases q⟩
    · rw [q]; exact ⟨o2, e2, fun v q => by rw [d2] at q; cases q⟩
  keep := fun i h h' st k => by
    obtain ⟨hz, hTI, ⟨a, b, hTO⟩, ⟨o1, e1, r1⟩, ⟨o2, e2, r2⟩⟩ := st
    exact ⟨k z (by simp) _ hz, k TI (by simp) _ hTI, ⟨a, b, k TO (by simp) _ hTO⟩, ⟨o1, k i1 (by simp) _ e1, r1⟩, ⟨o2, k i2 (by simp) _ e2, r2⟩⟩
  item := by
    intro X hP hw hK hc i pins s σ H E I hf st hg
    subst hP hw hK
    obtain ⟨hz, hTI, ⟨a0, b0, hTO⟩, h1, h2⟩ := st
    have hzl : z < s.heap.objs.size := Heap.lt_size hz
    refine wpAny_pyNext_zipD2_item S (Draws.text (A := X.A.in1) (I.ok.hd hc) i1 x t) (Draws.text (A := X.A.in1) (I.ok.hd hc) i2 y u) hz hTI hTO h1 h2 hg.1 hg.2 fun v1 v2 h' tk p1 p2 z' TO' h1' h2' hT hsz hk => ?_
    obtain ⟨c, tc, hc1, rfl⟩ := p1
    obtain ⟨d, td, hd1, rfl⟩ := p2
    refine ⟨_, rfl, wpAny_letOwnedTupleGo_zip (s := { s with heap := h', toks := tk }) z' fun h'' z'' sb => ?_⟩
    have hT2 : h''.get? s.heap.objs.size = some { cls := .type "tuple", data := .seq #[.str ⟨#[c]⟩ tc, .str ⟨#[d]⟩ td] } := (sb.2 _ (Nat.ne_of_gt hzl)).trans hT
    have new : ObjOk X.prog X.w (upd H s.heap.objs.size (.tup [.str ⟨#[c]⟩, .str ⟨#[d]⟩])) h'' s.heap.objs.size (.tup [.str ⟨#[c]⟩, .str ⟨#[d]⟩]) :=
      ⟨by show 2 ≤ sizeLine; decide, [.str ⟨#[c]⟩ tc, .str ⟨#[d]⟩ td], .cons ⟨_, rfl⟩ (.cons ⟨_, rfl⟩ .nil), ⟨_, hT2, rfl, _, rfl⟩⟩
    have I1 : Inv X pins σ (upd H s.heap.objs.size (.tup [.str ⟨#[c]⟩, .str ⟨#[d]⟩])) { s with heap := h'', toks := tk } :=
      I.turnedNew (t' := tk) (ch := [z, TI, TO, i1, i2]) (fun c o hb q => (sb.2 c (fun q' => hb (by simp [q']))).trans (hk c o (fun q' => hb (by simp [q'])) (fun q' => hb (by simp [q'])) (fun q' => hb (by simp [q'])) (fun q' => hb (by simp [q'])) q)) hf (Nat.le_refl _) new
    have st' : ∀ {a : Addr} {ty : String} {v : Str} {tv : Tok} {n : Nat}, a ≠ z → h'.IsStrIter a ty v tv n → h''.IsStrIter a ty v tv n := fun n ⟨o, e, r⟩ => ⟨o, (sb.2 _ n).trans e, r⟩
    refine ⟨.ref s.heap.objs.size, _, I1, rfl, ⟨_, c, d, rfl, I.hok.fresh (Nat.le_refl _), rfl, hc1, hd1⟩, ⟨z'', ?_, ⟨.str ⟨#[c]⟩ tc, .str ⟨#[d]⟩ td, ?_⟩, st' S.zi1.symm h1', st' S.zi2.symm h2'⟩, fun b hb => ?_⟩
    · exact (sb.2 _ S.TIz).trans (hk _ _ S.TIz S.TITO S.TIi1 S.TIi2 hTI)
    · exact (sb.2 _ S.TOz).trans TO'
    · have hlt : b < s.heap.objs.size := by
        have e' : b = z ∨ b = TI ∨ b = TO ∨ b = i1 ∨ b = i2 := by simpa using hb
        rcases e' with q | q | q | q | q
        · rw [q]; exact hzl
        · rw [q]; exact Heap.lt_size hTI
        · rw [q]; exact Heap.lt_size hTO
        · rw [q]; obtain ⟨_, e1, _⟩ := h1; exact Heap.lt_size e1
        · rw [q]; obtain ⟨_, e2, _⟩ := h2; exact Heap.lt_size e2
      rw [upd_ne (Nat.ne_of_lt hlt)]
      exact (hf b hb).1
  done := by
    intro X hP hw hK hc i pins s σ H E I hf st hg
    subst hP hw hK
    obtain ⟨hz, hTI, ⟨a0, b0, hTO⟩, h1, h2⟩ := st
    have hg' : i = min x.cps.size y.cps.size := hg
    exact wpAny_pyNext_zipD2_end S (Draws.text (A := X.A.in1) (I.ok.hd hc) i1 x t) (Draws.text (A := X.A.in1) (I.ok.hd hc) i2 y u) hz hTI hTO h1 h2 (by omega) (by omega) (by omega) fun h' tk hk => ⟨rfl, I.turnedL (t' := tk) (ch := [z, TI, TO, i1, i2]) (fun c o hb q =>
      hk c o (fun q' => hb (by simp [q'])) (fun q' => hb (by simp [q'])) (fun q' => hb (by simp [q'])) (fun q' => hb (by simp [q'])) q) hf⟩
  self := fun A i s Q E st h => wpAny_pyIter_zip st.1 h
theorem sep_new (n : Addr) : ZipSep2 (n + 4) (n + 2) (n + 3) n (n + 1) [n] [n + 1] := by
  constructor <;> simp <;> omega
def iZipX (ta : TA) : TI := fun σ H R => ta σ H fun vs H1 => ∃ x y : Str, vs = [.str x, .str y] ∧ R (Itx x y) H1
theorem pi_zipX {X : Cx} {e e2 : Expr} {ta : TA} {p pos tpos : Pos} {elts : List Expr} {kk : Nat} (hg : Gl X "zip") (hm : X.mg "zip" = none) (ha : PA X [e, e2] ta)
    (hs : starEach [e, e2] X.env = (false, eval e X.env) :: starEach [e2] X.env := by rfl) (hpl : (backTo pos (starEach [e2] X.env)).any (·.1) = false := by rfl) :
    PI X (.Tuple elts kk tpos) (.Call (.Name "zip" p) [e, e2] [] pos) (iZipX ta) := by
  refine ⟨fun pins s σ H R I h => ?_⟩
  refine Call_ (ld_blt I hg hm PyProof.Rows.boot_zip (PyProof.Rows.callWith_type1 (thn (ha.run pos pins s σ H _ I h) fun us s1 ⟨vs, H1, I1, r1, q1⟩ => ?_) hs hpl))
  obtain ⟨x, y, ex, q⟩ := q1
  subst ex
  cases r1 with
  | cons r rr =>
    cases rr with
    | cons r' rr =>
      cases rr
      obtain ⟨t, rfl⟩ := r
      obtain ⟨u, rfl⟩ := r'
      refine zip_begins2 (begins_text x t) (begins_text y u) trivial trivial fun h' hz hTI hTO h1 h2 hsz hk => wpAny_pyIter_zip hz ?_
      have I2 : Inv X pins σ H1 { s1 with heap := h' } := I1.kept (t' := s1.toks) hk
      refine ⟨s1.heap.objs.size + 4, [s1.heap.objs.size + 4, s1.heap.objs.size + 2, s1.heap.objs.size + 3, s1.heap.objs.size, s1.heap.objs.size + 1], _, _, H1, rfl, I2, turn_zipX (sep_new s1.heap.objs.size), ⟨hz, hTI, ⟨_, _, hTO⟩, ⟨_, h1, rfl, rfl⟩, ⟨_, h2, rfl, rfl⟩⟩, fun c hcm => ?_, q⟩
      have e' : c = s1.heap.objs.size + 4 ∨ c = s1.heap.objs.size + 2 ∨ c = s1.heap.objs.size + 3 ∨ c = s1.heap.objs.size ∨ c = s1.heap.objs.size + 1 := by simpa using hcm
      have hle : s1.heap.objs.size ≤ c := by
        rcases e' with z | z | z | z | z
        · rw [z]; exact Nat.le_add_right _ _
        · rw [z]; exact Nat.le_add_right _ _
        · rw [z]; exact Nat.le_add_right _ _
        · rw [z]; exact Nat.le_refl _
        · rw [z]; exact Nat.le_add_right _ _
      exact I1.fpOk hle (I1.hok.fresh hle)
theorem walk_zipX {x y : Str} : Walk (Itx x y) (min x.cps.size y.cps.size) (fun _ => True) (Itx x y).yld :=
  ⟨fun i _ hi _ => ⟨by omega, by omega⟩, fun _ _ => rfl, fun _ _ _ _ _ _ y => y⟩
end ZX
/-! list(text); text[::-1] as a text of the same length -/
namespace R1
open PySem PySem.Spec PyProof.Rows L2
theorem texts_in : ∀ l : List Value, (∀ v ∈ l, ∃ z t, v = .str z t) → ∃ ss : List Str, Vals (ss.map V.str) l
  | [], _ => ⟨[], .nil⟩
  | v :: l, h => by
    obtain ⟨ss, r⟩ := texts_in l fun u hu => h u (List.mem_cons_of_mem _ hu)
    obtain ⟨z, t, rfl⟩ := h v List.mem_cons_self
    exact ⟨z :: ss, .cons ⟨t, rfl⟩ r⟩
section
variable {X : Cx}
theorem cr_listT (hc : X.calm = true) : CallR X (.type "list") (fun xs H Q => ∃ x : Str, xs = [.str x] ∧ x.length ≤ sizeLine ∧ ∀ p (ss : List Str), H p = none → Q (.ref p) (upd H p (.lst (ss.map V.str)))) := by
  intro pins s σ H xs us Q I r h
  obtain ⟨x, rfl, hb, q⟩ := h
  obtain ⟨t, rfl⟩ : ∃ t, us = [Value.str x t] := by
    cases r with
    | cons r1 r2 =>
      cases r2
      obtain ⟨t, rfl⟩ := r1
      exact ⟨t, rfl⟩
  refine call_list_str (I.ok.hd hc) x t (hn := hb) fun h' tk acc c hk hS hacc => ?_
  obtain ⟨ss, rv⟩ := texts_in acc.toList fun v hv => by
    obtain ⟨j, hj⟩ := List.getElem?_of_mem hv
    obtain ⟨c, u, _, e⟩ := hacc.2 j v (by simpa using hj)
    exact ⟨_, u, e⟩
  have hl : (ss.map V.str).length ≤ sizeLine := by
    rw [rv.length, Array.length_toList, hacc.1]
    exact hb
  exact ⟨.ref s.heap.objs.size, upd H s.heap.objs.size (.lst (ss.map V.str)), I.laid (t' := tk) hk (Nat.le_refl _) ⟨hl, acc.toList, c, rv, hS⟩, rfl, q _ ss (I.hok.fresh (Nat.le_refl _))⟩
def tRevT (te : TE) : TE := fun σ H Q => te σ H fun x H1 => ∃ z : Str, x = .str z ∧ z.length ≤ sizeLine ∧ ∀ y : Str, y.length ≤ z.length → (∀ c ∈ y.cps.toList, c ∈ z.cps.toList) → Q (.str y) H1
theorem pe_revT {e : Expr} {te : TE} {k : Nat} {p1 p2 p3 pos : Pos} (he : PE X e te) : PE X (.Subscript e (.Slice none none (some (.UnaryOp .USub (.Constant (.int 1) k p1) p2)) p3) pos) (tRevT te) := by
  refine ⟨fun pins s σ H Q I h => ?_⟩
  refine Subscript_ (thn (he.run pins s σ H _ I h) fun v s1 ⟨x, H1, I1, r1, q1⟩ => ?_)
  obtain ⟨z, ex, hz, q⟩ := q1
  subst ex
  obtain ⟨t, rfl⟩ := r1
  have hst : PO X (some (.UnaryOp .USub (.Constant (.int 1) k p1) p2)) (tPart (tUn (rU fun i => .int (-i)) (tC (.int 1)))) := po_some (pe_un un_neg pe_int)
  refine wpAny_Slice (thn (po_none.run pins s1 σ H1 (fun o H2 => o = none ∧ H2 = H1) I1 ⟨rfl, rfl⟩) fun vl s2 ⟨l, H2, I2, pl, el, e2⟩ => ?_)
  subst el e2
  refine thn (po_none.run pins s2 σ H2 (fun o H3 => o = none ∧ H3 = H2) I2 ⟨rfl, rfl⟩) fun vu s3 ⟨u, H3, I3, pu, eu, e3⟩ => ?_
  subst eu e3
  refine thn (hst.run pins s3 σ H3 (fun o H4 => o = some (-1) ∧ H4 = H3) I3 ⟨1, rfl, -1, rfl, rfl, rfl⟩) fun vs s4 ⟨o, H4, I4, ps, eo, e4⟩ => ?_
  subst eo e4
  obtain ⟨l1, rfl, el⟩ := IsPart.raw pl
  obtain ⟨u1, rfl, eu⟩ := IsPart.raw pu
  obtain ⟨st1, rfl, es⟩ := IsPart.raw ps
  have I5 : Inv X pins σ H4 { s4 with heap := s4.heap.push { cls := .type "slice", data := .fields #[partValue l1, partValue u1, partValue st1] } } := I4.kept (t' := s4.toks) fun b ob q => Heap.get?_push_of_some _ q
  show wpAny (model X.prog X.w) X.A (subscriptTail e (.Slice none none (some (.UnaryOp .USub (.Constant (.int 1) k p1) p2)) p3) (.str z t) (.ref s4.heap.objs.size)) (EP X pins σ Q) X.xe { s4 with heap := s4.heap.push { cls := .type "slice", data := .fields #[partValue l1, partValue u1, partValue st1] } }
  refine tail_any (ops := [.str z t, .ref s4.heap.objs.size]) (typeIs_str _ _ _) (F.slot_str_getitem.lookup) ?_ (by with_unfolding_all rfl)
  refine wpAny_getItem_str_slice (l := l1) (u := u1) (st := st1) ⟨_, Heap.get?_push_size _ rfl, rfl, rfl⟩ (by rw [es]; rfl) ?_
  have e0 : sliceMade z t l1 u1 st1 = .str ⟨(((List.range z.length).map fun k => z.length - 1 - k).filterMap (z.cps[·]?)).toArray⟩ := by
    unfold sliceMade slicePicked
    rw [el, eu, es]
    show (if ((-1 : Int) == 1 && _) = true then _ else _) = _
    rw [if_neg (by simp)]
    show Made.str ⟨((sliceRange ((z.length : Int) - 1) (-1) (-1)).filterMap (z.cps[·]?)).toArray⟩ = _
    rw [PySem.W.krv_sliceRange]
  rw [e0]
  have hl : (⟨(((List.range z.length).map fun k => z.length - 1 - k).filterMap (z.cps[·]?)).toArray⟩ : Str).length ≤ z.length := by
    show (((List.range z.length).map fun k => z.length - 1 - k).filterMap (z.cps[·]?)).toArray.size ≤ _
    rw [List.size_toArray]
    refine Nat.le_trans (List.length_filterMap_le _ _) ?_
    rw [List.length_map, List.length_range]
    exact Nat.le_refl _
  have hm : ∀ c ∈ (⟨(((List.range z.length).map fun k => z.length - 1 - k).filterMap (z.cps[·]?)).toArray⟩ : Str).cps.toList, c ∈ z.cps.toList := fun c hc => by
    have hc' : c ∈ ((List.range z.length).map fun k => z.length - 1 - k).filterMap (z.cps[·]?) := by simpa using hc
    obtain ⟨i, _, hi⟩ := List.mem_filterMap.mp hc'
    rw [← Array.getElem?_toList] at hi
    exact List.mem_of_getElem? hi
  exact ⟨Nat.le_trans hl hz, .str _, H4, I5.tok _, ⟨_, rfl⟩, q _ hl hm⟩
end
end R1
/-! text[::-1] -/
namespace R1
open PySem PySem.Spec PyProof.Rows L2
section
variable {X : Cx}
def tRevS (te : TE) : TE := fun σ H Q => te σ H fun x H1 => ∃ z : Str, x = .str z ∧ z.length ≤ sizeLine ∧ Q (.str ⟨z.cps.toList.reverse.toArray⟩) H1
theorem pe_revS {e : Expr} {te : TE} {k : Nat} {p1 p2 p3 pos : Pos} (he : PE X e te) : PE X (.Subscript e (.Slice none none (some (.UnaryOp .USub (.Constant (.int 1) k p1) p2)) p3) pos) (tRevS te) := by
  refine ⟨fun pins s σ H Q I h => ?_⟩
  refine Subscript_ (thn (he.run pins s σ H _ I h) fun v s1 ⟨x, H1, I1, r1, q1⟩ => ?_)
  obtain ⟨z, ex, hz, q⟩ := q1
  subst ex
  obtain ⟨t, rfl⟩ := r1
  have hst : PO X (some (.UnaryOp .USub (.Constant (.int 1) k p1) p2)) (tPart (tUn (rU fun i => .int (-i)) (tC (.int 1)))) := po_some (pe_un un_neg pe_int)
  refine wpAny_Slice (thn (po_none.run pins s1 σ H1 (fun o H2 => o = none ∧ H2 = H1) I1 ⟨rfl, rfl⟩) fun vl s2 ⟨l, H2, I2, pl, el, e2⟩ => ?_)
  subst el e2
  refine thn (po_none.run pins s2 σ H2 (fun o H3 => o = none ∧ H3 = H2) I2 ⟨rfl, rfl⟩) fun vu s3 ⟨u, H3, I3, pu, eu, e3⟩ => ?_
  subst eu e3
  refine thn (hst.run pins s3 σ H3 (fun o H4 => o = some (-1) ∧ H4 = H3) I3 ⟨1, rfl, -1, rfl, rfl, rfl⟩) fun vs s4 ⟨o, H4, I4, ps, eo, e4⟩ => ?_
  subst eo e4
  obtain ⟨l1, rfl, el⟩ := IsPart.raw pl
  obtain ⟨u1, rfl, eu⟩ := IsPart.raw pu
  obtain ⟨st1, rfl, es⟩ := IsPart.raw ps
  have I5 : Inv X pins σ H4 { s4 with heap := s4.heap.push { cls := .type "slice", data := .fields #[partValue l1, partValue u1, partValue st1] } } := I4.kept (t' := s4.toks) fun b ob q => Heap.get?_push_of_some _ q
  show wpAny (model X.prog X.w) X.A (subscriptTail e (.Slice none none (some (.UnaryOp .USub (.Constant (.int 1) k p1) p2)) p3) (.str z t) (.ref s4.heap.objs.size)) (EP X pins σ Q) X.xe { s4 with heap := s4.heap.push { cls := .type "slice", data := .fields #[partValue l1, partValue u1, partValue st1] } }
  refine tail_any (ops := [.str z t, .ref s4.heap.objs.size]) (typeIs_str _ _ _) (F.slot_str_getitem.lookup) ?_ (by with_unfolding_all rfl)
  refine wpAny_getItem_str_slice (l := l1) (u := u1) (st := st1) ⟨_, Heap.get?_push_size _ rfl, rfl, rfl⟩ (by rw [es]; rfl) ?_
  have e0 : sliceMade z t l1 u1 st1 = .str ⟨(((List.range z.length).map fun k => z.length - 1 - k).filterMap (z.cps[·]?)).toArray⟩ := by
    unfold sliceMade slicePicked
    rw [el, eu, es]
    show (if ((-1 : Int) == 1 && _) = true then _ else _) = _
    rw [if_neg (by simp)]
    show Made.str ⟨((sliceRange ((z.length : Int) - 1) (-1) (-1)).filterMap (z.cps[·]?)).toArray⟩ = _
    rw [PySem.W.krv_sliceRange]
  rw [e0]
  have er : (⟨(((List.range z.length).map fun k => z.length - 1 - k).filterMap (z.cps[·]?)).toArray⟩ : Str) = ⟨z.cps.toList.reverse.toArray⟩ := by
    have e1 : ((List.range z.length).map fun k => z.length - 1 - k).filterMap (z.cps[·]?) = z.cps.toList.reverse := by
      rw [PySem.W.krv_range, List.filterMap_reverse]
      show ((List.range z.cps.size).filterMap (z.cps[·]?)).reverse = _
      rw [PySem.W.krv_all]
    rw [e1]
  rw [er]
  have hl : (⟨z.cps.toList.reverse.toArray⟩ : Str).length ≤ z.length := by
    show z.cps.toList.reverse.toArray.size ≤ z.cps.size
    rw [List.size_toArray, List.length_reverse, Array.length_toList]
    exact Nat.le_refl _
  exact ⟨Nat.le_trans hl hz, .str _, H4, I5.tok _, ⟨_, rfl⟩, q⟩
end
end R1
/-! two fors in a comprehension, by walks -/
namespace L2
open PySem PySem.Spec PyProof.Rows
set_option autoImplicit false
/-- the second for -/
def Inn (J1 : It) (g1 : TG) (tt1 : TT) (te : TE) (vs1 : List Nat) (D : Addr) (σ2 : St) (H4 : Hp) (Nx : Hp → Prop) : Prop :=
  ∃ W1 : Nat → Nat → Hp → Prop, (∃ m, W1 0 m H4) ∧ ∀ j k H, W1 j k H →
      (J1.stop j H ∧ Nx H) ∨ (J1.go j H ∧ ∃ Nx1 : Hp → Prop, (∀ H', Nx1 H' → ∃ k', k' < k ∧ W1 (j + 1) k' H') ∧ ∀ x H', J1.yld j H x H' → g1 x (wipe σ2 vs1) H' fun σ3 H5 => wipe σ3 vs1 = wipe σ2 vs1 ∧ tt1 σ3 H5 fun b H6 =>
        if b = true then te σ3 H6 fun y H7 => ∃ acc, H7 D = some (.lst acc) ∧ acc.length < sizeLine ∧ Nx1 (upd H7 D (.lst (acc ++ [y]))) else Nx1 H6)
section
variable {J J1 : It} {n n1 : Nat} {G G1 : Hp → Prop} {Y Y1 : Nat → Hp → V → Hp → Prop}
theorem inn_it (w : Walk J1 n1 G1 Y1) {g1 : TG} {tt1 : TT} {te : TE} {vs1 : List Nat} {D : Addr} {σ2 : St} {H4 : Hp} {Nx : Hp → Prop} (Pv : Nat → Hp → Prop) (h0 : Pv 0 H4) (hG : ∀ i H, i ≤ n1 → Pv i H → G1 H)
    (hs : ∀ j x H H', j < n1 → Pv j H → Y1 j H x H' → g1 x (wipe σ2 vs1) H' fun σ3 H5 => wipe σ3 vs1 = wipe σ2 vs1 ∧ tt1 σ3 H5 fun b H6 =>
        if b = true then te σ3 H6 fun y H7 => ∃ acc, H7 D = some (.lst acc) ∧ acc.length < sizeLine ∧ Pv (j + 1) (upd H7 D (.lst (acc ++ [y]))) else Pv (j + 1) H6)
    (hd : ∀ H, Pv n1 H → Nx H) : Inn J1 g1 tt1 te vs1 D σ2 H4 Nx := by
  refine ⟨fun i m H => m = n1 - i ∧ i ≤ n1 ∧ Pv i H, ⟨n1, by simp, Nat.zero_le _, h0⟩, ?_⟩
  rintro i m H ⟨rfl, hi, p⟩
  have q := hG i H hi p
  by_cases hlt : i < n1
  · refine .inr ⟨w.goes i H hlt q, Pv (i + 1), fun H' p' => ⟨n1 - (i + 1), by omega, rfl, hlt, p'⟩, fun x H' y => hs i x H H' hlt p (w.yields i H x H' hlt q y)⟩
  · have e : i = n1 := by omega
    subst e
    exact .inl ⟨w.stops H q, hd H p⟩
theorem lc2_it (w : Walk J n G Y) {g : TG} {tt : TT} {wi1 : TI} {g1 : TG} {tt1 : TT} {te : TE} {vs vs1 : List Nat} {σ : St} {H1 : Hp} {D : Addr} {Qd : Hp → Prop} (Pv : Nat → Hp → Prop) (h0 : Pv 0 (upd H1 D (.lst []))) (hG : ∀ i H, i ≤ n → Pv i H → G H)
    (hs : ∀ i x H H', i < n → Pv i H → Y i H x H' → g x (wipe σ vs) H' fun σ2 H2 => wipe σ2 vs = wipe σ vs ∧ tt σ2 H2 fun b H3 =>
      if b = true then wi1 σ2 H3 fun J1 H4 => Inn J1 g1 tt1 te vs1 D σ2 H4 (Pv (i + 1)) else Pv (i + 1) H3) (hd : ∀ H, Pv n H → Qd H) :
    ∃ W : Nat → Nat → Hp → Prop, (∃ m, W 0 m (upd H1 D (.lst []))) ∧ ∀ i m H, W i m H →
  (J.stop i H ∧ Qd H) ∨ (J.go i H ∧ ∃ Nx : Hp → Prop, (∀ H', Nx H' → ∃ m', m' < m ∧ W (i + 1) m' H') ∧ ∀ x H', J.yld i H x H' → g x (wipe σ vs) H' fun σ2 H2 => wipe σ2 vs = wipe σ vs ∧ tt σ2 H2 fun b H3 =>
    if b = true then wi1 σ2 H3 fun J1 H4 => ∃ W1 : Nat → Nat → Hp → Prop, (∃ m, W1 0 m H4) ∧ ∀ j k H, W1 j k H →
      (J1.stop j H ∧ Nx H) ∨ (J1.go j H ∧ ∃ Nx1 : Hp → Prop, (∀ H', Nx1 H' → ∃ k', k' < k ∧ W1 (j + 1) k' H') ∧ ∀ x H', J1.yld j H x H' → g1 x (wipe σ2 vs1) H' fun σ3 H5 => wipe σ3 vs1 = wipe σ2 vs1 ∧ tt1 σ3 H5 fun b H6 =>
        if b = true then te σ3 H6 fun y H7 => ∃ acc, H7 D = some (.lst acc) ∧ acc.length < sizeLine ∧ Nx1 (upd H7 D (.lst (acc ++ [y]))) else Nx1 H6)
    else Nx H3) := by
  refine ⟨fun i m H => m = n - i ∧ i ≤ n ∧ Pv i H, ⟨n, by simp, Nat.zero_le _, h0⟩, ?_⟩
  rintro i m H ⟨rfl, hi, p⟩
  have q := hG i H hi p
  by_cases hlt : i < n
  · refine .inr ⟨w.goes i H hlt q, Pv (i + 1), fun H' p' => ⟨n - (i + 1), by omega, rfl, hlt, p'⟩, fun x H' y => hs i x H H' hlt p (w.yields i H x H' hlt q y)⟩
  · have e : i = n := by omega
    subst e
    exact .inl ⟨w.stops H q, hd H p⟩
end
end L2
/-! own classes: ==, != by an own __eq__; str() by an own __str__ -/
namespace OQ
open PySem PySem.Spec PyProof.Rows L2
set_option autoImplicit false
section
open PySem.W PySem.Calls
variable {prog : Program} {w : World} {A : Around} {E : Value → Shared → Prop} {s : Shared} {K : Frag} {x C f : Addr} {ox : Obj} {od : Option Obj} {b tb : Value}
theorem slot_ne : Slot "object" "__ne__" "object.__ne__" :=
  .of (owner := "object") (n := "__ne__") (by rw [typeLookup_type, builtinLookup_eq_fast]; kernel_rfl) (by decide +kernel) (by decide +kernel) (by decide +kernel)
    (by first | exact .inl (by decide +kernel) | exact .inr (by decide +kernel)) (by rw [isSubtype_type]; kernel_rfl)
theorem ifBound_B {M : Model} {name : Str} {id : String} {args : List Value} {Q : Option Value → Shared → Prop} (X : K.In s.heap) (I : InstAt s.heap x ox C od) (hs : findIn K (.ref C) name = some (some (.builtin id)))
    (hb : ∀ self, bindSpecial (.builtin id) self = pure (.builtin id, [self])) (h : wpAny M A (call (.builtin id) (.ref x :: args)) (fun v => Q (some v)) E s) : wpAny M A (callSpecialIfBound? (.ref x) name args) Q E s := by
  simp only [callSpecialIfBound?, bindSpecialIfBound?]
  refine wpAny_holding (wpAny_bind (wpAny_bind (wpAny_bind (I.type.here ((looks_findIn X hs).here ?_)))))
  refine wpAny_bind (wpAny_askSetting (wpAny_ite ?_))
  have fin : wpAny M A (call (.builtin id) ([.ref x] ++ args) >>= fun v => pure (some v)) Q E s := wpAny_bind (wpAny_mono h (fun v s' h' => wpAny_pure h') fun _ _ h' => h')
  split
  · exact wpAny_bind ((Looks.of_pure (hb _)).here (wpAny_pure (by exact fin)))
  · exact wpAny_tryCatch (wpAny_bind ((Looks.of_pure (hb _)).here (wpAny_pure (by exact fin))))
theorem ne_entry (hu : A.units < cLine) (X : K.In s.heap) (I : InstAt s.heap x ox C od) (hs : findIn K (.ref C) "__eq__" = some (some (.ref f))) (hf : isFn K (.ref f) = true) {Q : Fin → Shared → Prop}
    (hcall : wpAny (model prog w) A (call (.ref f) [.ref x, b]) (fun v s' => ∃ r, v = .bool r ∧ Q (.done (.ret (.bool (!r)))) s') E s) :
    wpAny (model prog w) A (Builtin.«object.__ne__» ⟨[.ref x, b], []⟩) Q E s := by
  unfold Builtin.«object.__ne__»
  refine wpAny_bind (wpAny_of_eq (a := ((Value.ref x : Value), [b])) (by first | rfl | (simp only [Builtin.slotArgs]; rfl)) ?_)
  refine wpAny_bind (m := cRoomFor _ _) (wpAny_cRoomFor hu ?_)
  refine wpAny_bind (m := callSpecialIfBound? (.ref x) (Str.ofString "__eq__") [b]) (ifBound_K X I hs hf (wpAny_mono hcall (fun v s' hv => ?_) fun _ _ e => e))
  obtain ⟨r, rfl, q⟩ := hv
  exact wpAny_bind (m := truthy (.bool r)) (wpAny_truthy_bool (wpAny_pure q))
theorem rc_ne {Q : Value → Shared → Prop} (hu : A.units + 1 < cLine) (X : K.In s.heap) (I : InstAt s.heap x ox C od) (hb : Looks (model prog w) s.heap (typeOf b) tb) (hn : notFirst K C tb = true)
    (hne : findIn K (.ref C) "__ne__" = some (some (.builtin "object.__ne__"))) (hm : mroIn K C (.type "object") = some true) (hs : findIn K (.ref C) "__eq__" = some (some (.ref f))) (hf : isFn K (.ref f) = true)
    (h : wpAny (model prog w) A.in1 (call (.ref f) [.ref x, b]) (fun v s' => ∃ r, v = .bool r ∧ Q (.bool (!r)) s') E s) : wpAny (model prog w) A (richCompare .NotEq (.ref x) b) Q E s := by
  have one : wpAny (model prog w) A (tryCompare (.ref x) "__ne__" b) (fun r s' => ∃ v, r = some v ∧ Q v s') E s := by
    unfold tryCompare
    have sub : Looks (model prog w) s.heap (isInstance (.ref x) (.type "object")) true := I.type.andThen (looks_mroIn X hm)
    refine wpAny_bind (ifBound_B X I hne slot_ne.bind (wpAny_call (codeAny_call_builtin slot_ne.plain F.cmpEntry_ne (check_slot F.cmpKind_ne F.cmpSplit_ne sub (F.cmpArgs_ne _ _) ?_))))
    refine ne_entry (by show A.units + 1 < cLine; exact hu) X I hs hf (wpAny_mono h (fun v s' hv => ?_) fun _ _ e => e)
    obtain ⟨r, rfl, q⟩ := hv
    exact ⟨r, rfl, wpAny_pure ⟨_, rfl, q⟩⟩
  unfold richCompare
  simp only [oneThing_ref]
  refine wpAny_holding (wpAny_bind (wpAny_cRoomFor (Nat.lt_of_succ_lt hu) ?_))
  refine wpAny_bind (I.type.here (wpAny_bind (hb.here ?_)))
  split
  · rename_i q
    have e : subIn K tb (.ref C) = some false := by
      rcases Bool.or_eq_true_iff.mp hn with e | e
      · rw [beq_iff_eq.mp e] at q; simp at q
      · exact beq_iff_eq.mp e
    refine wpAny_bind ((looks_subIn X e).here ?_)
    simp only [Bool.false_eq_true, if_false]
    refine wpAny_bind (wpAny_mono one (fun r s' z => ?_) fun _ _ e => e)
    obtain ⟨v, rfl, hq⟩ := z
    exact wpAny_pure hq
  · refine wpAny_bind (wpAny_pure ?_)
    simp only [Bool.false_eq_true, if_false]
    refine wpAny_bind (wpAny_mono one (fun r s' z => ?_) fun _ _ e => e)
    obtain ⟨v, rfl, hq⟩ := z
    exact wpAny_pure hq
end
/-! ### rules -/
section
variable {X : Cx} {CX : CXT} {C f : Addr} {fd : FuncData} {ps : List Str} {sp : Sp} {E : XK} {k : Nat}
theorem env_in {pins : List (Addr × Obj)} {σ : L2.St} {H : Hp} {s : Shared} {A : Around} (I : Inv X pins σ H s) (h : A.frames = X.A.frames) : Env0 X.prog X.w X.K X.mg X.base A X.stack s H := by
  have e := I.env0
  exact ⟨by rw [h]; exact e.frames, e.mod, e.bs, e.bsz, e.funs, e.frf, e.hok, e.bare⟩
/-- x == y by the class's own __eq__ -/
def rOEq (K : PySem.W.Frag) (C : Addr) (sp : Sp) (E : XK) : R2 := fun x y H Q => ∃ (a dx : Addr) (fs : List (Str × V)) (tb : Value), x = .ref a ∧ H a = some (.ins C dx fs) ∧ TyX K H y tb ∧ PySem.W.notFirst K C tb = true ∧ sp [.ref a, y] H (fun v H' => ∃ b, v = .bl b ∧ Q (.bl b) H') E
def rONe (K : PySem.W.Frag) (C : Addr) (sp : Sp) (E : XK) : R2 := fun x y H Q => ∃ (a dx : Addr) (fs : List (Str × V)) (tb : Value), x = .ref a ∧ H a = some (.ins C dx fs) ∧ TyX K H y tb ∧ PySem.W.notFirst K C tb = true ∧ sp [.ref a, y] H (fun v H' => ∃ b, v = .bl b ∧ Q (.bl (!b)) H') E
theorem run_two {pins : List (Addr × Obj)} {σ : L2.St} {H : Hp} {s : Shared} {A : Around} {Q : VK} {us : List Value} {vs : List V} (F : FnOk X.prog X.w X.K X.mg X.base CX k f fd ps sp) (hr : Room k A) (hA : A.frames = X.A.frames) (hb : Binds X.K fd ps []) (hx : Passes CX X E)
    (I : Inv X pins σ H s) (r : Vals vs us) (h : sp vs H Q E) : wpAny (model X.prog X.w) A (call (.ref f) us) (EP X pins σ Q) X.xe s := by
  have hl : us.length = ps.length := by rw [← r.length]; exact F.len _ _ _ _ h
  have b := hb s us I.kIn (by rw [List.append_nil]; exact hl)
  rw [List.append_nil] at b
  refine wpAny_call (codeAny_mono (F.run A X.stack s H ⟨us, []⟩ us vs Q E hr (env_in I hA) b r h) fun r s' hq => ?_)
  cases r with
  | error e => exact hx pins σ H s e s' I hq
  | ok fl =>
    cases fl with
    | ret u => exact I.after hq
    | next => exact False.elim hq
    | brk => exact False.elim hq
    | cont => exact False.elim hq
theorem op_oeq (F : FnOk X.prog X.w X.K X.mg X.base CX k f fd ps sp) (hs : Meth X.K C "__eq__" f) (hb : Binds X.K fd ps []) (hx : Passes CX X E) (hr : Room k X.A) : OpR X (compareOp .Eq) (rOEq X.K C sp E) := by
  intro pins s σ H x y v u Q I rx ry hq
  obtain ⟨a, dx, fs, tb, rfl, ha, ty, hn, h⟩ := hq
  cases rx
  obtain ⟨mA, J, _⟩ := ins_get I.hok ha
  obtain ⟨od, J, _⟩ := J.look
  obtain ⟨P0, kx, hp, _⟩ := kit_of I ry ty
  obtain ⟨m, hF⟩ := I.fr
  show wpAny (model X.prog X.w) X.A (richCompare .Eq (.ref a) u) (EP X pins σ Q) X.xe s
  refine PySem.W.cmp_K (op := .Eq) hr.units0 hF I.ok.mod.kin J (kx.ty _ _ I.kIn hp) hn hs.at_ hs.fn ?_
  refine thn (run_two F hr rfl hb hx I (vs := [.ref a, y]) (us := [.ref a, u]) (.cons rfl (.cons ry .nil)) h) fun v s1 hv => ?_
  obtain ⟨z, H1, I1, rz, b, rfl, q⟩ := hv
  cases rz
  exact ⟨.bl b, H1, I1, rfl, q⟩
theorem op_one (F : FnOk X.prog X.w X.K X.mg X.base CX k f fd ps sp) (hs : Meth X.K C "__eq__" f) (hne : PySem.W.findIn X.K (.ref C) "__ne__" = some (some (.builtin "object.__ne__"))) (hm : PySem.W.mroIn X.K C (.type "object") = some true) (hb : Binds X.K fd ps []) (hx : Passes CX X E) (hr : Room (k + 1) X.A) : OpR X (compareOp .NotEq) (rONe X.K C sp E) := by
  intro pins s σ H x y v u Q I rx ry hq
  obtain ⟨a, dx, fs, tb, rfl, ha, ty, hn, h⟩ := hq
  cases rx
  obtain ⟨mA, J, _⟩ := ins_get I.hok ha
  obtain ⟨od, J, _⟩ := J.look
  obtain ⟨P0, kx, hp, _⟩ := kit_of I ry ty
  show wpAny (model X.prog X.w) X.A (richCompare .NotEq (.ref a) u) (EP X pins σ Q) X.xe s
  refine rc_ne (by have := hr.un; omega) I.kIn J (kx.ty _ _ I.kIn hp) hn hne hm hs.at_ hs.fn ?_
  refine thn (run_two F hr.in1 rfl hb hx I (vs := [.ref a, y]) (us := [.ref a, u]) (.cons rfl (.cons ry .nil)) h) fun v s1 hv => ?_
  obtain ⟨z, H1, I1, rz, b, rfl, q⟩ := hv
  cases rz
  exact ⟨b, rfl, .bl (!b), H1, I1, rfl, q⟩
/-- str(x) by the class's own __str__ -/
def rStrO (C : Addr) (sp : Sp) (E : XK) : List V → Hp → VK → Prop := fun xs H Q => ∃ (a dx : Addr) (fs : List (Str × V)), xs = [.ref a] ∧ H a = some (.ins C dx fs) ∧ sp [.ref a] H (fun v H' => ∃ y : Str, v = .str y ∧ Q (.str y) H') E
theorem call_strO (F : FnOk X.prog X.w X.K X.mg X.base CX k f fd ps sp) (hs : Meth X.K C "__str__" f) (hb : Binds X.K fd ps []) (hx : Passes CX X E) (hr : Room (k + 2) X.A) : CallR X (.type "str") (rStrO C sp E) := by
  intro pins s σ H xs us Q I r h
  obtain ⟨a, dx, fs, rfl, ha, h⟩ := h
  cases r with
  | cons ra rr =>
    cases rr
    cases ra
    obtain ⟨mA, J, _⟩ := ins_get I.hok ha
    obtain ⟨od, J, _⟩ := J.look
    refine PySem.W.kso_call (hr.in1.in1).units0 I.kIn J hs.at_ hs.fn ?_
    refine thn (run_two F hr.in1.in1 rfl hb hx I (vs := [.ref a]) (us := [.ref a]) (.cons rfl .nil) h) fun v s1 hv => ?_
    obtain ⟨z, H1, I1, rz, y, rfl, q⟩ := hv
    obtain ⟨t, rfl⟩ := rz
    exact ⟨.str y, H1, I1, ⟨t, rfl⟩, q⟩
end
end OQ
/-! an own error whose __init__ begins with super().__init__(..) -/
namespace EX
open PySem PySem.Spec PyProof.Rows L2 NdefX
set_option autoImplicit false
/-- what the written part says of the class, its __init__ and the cell of its class -/
structure SupC (P : Program) (K : PySem.W.Frag) (C fI cc : Addr) (F : NF) : Prop where
  oex : OexC K C
  cl : F.cl = [(("__class__" : Str), cc)]
  cd : PySem.W.codeIn K (.ref F.c) F.qual = true
  code : ∃ (ccl : Value) (cdd : Option Addr) (vs : Array Value) (ccs : Array (Option Value)) (file : Str) (tf : Tok), K.lookup F.c = some (⟨ccl, cdd, .fields vs, ccs⟩ : Obj) ∧ vs[2]? = some (Value.str file tf) ∧ ((P.main.file : Str) == file) = true
  cell : ∃ (cl : Value) (cld : Option Addr) (csl : Array (Option Value)), K.lookup cc = some (⟨cl, cld, .cell (some (.ref C)), csl⟩ : Obj)
  top : (P.main.scope.names.lookup ("super" : Str)).isSome = false
  opq : PySem.W.nsIn K cStatics "thirdparty.any" = some none
  ini : PySem.W.ks_superIn K C C "__init__" = some (some (.builtin "ValueError.__init__"))
  ve : PySem.W.subIn K (.ref C) (.type "ValueError") = some true
  own : PySem.W.mroIn K C (.ref C) = some true
section
variable {X : Cx} {pins : List (Addr × Obj)} {σ : L2.St} {H : Hp} {s : Shared}
/-- the bound __init__ is called -/
theorem call_mw {A : Around} {E : Value → Shared → Prop} {a C u : Addr} {us : List Value} {Q : Value → Shared → Prop} (T : OexC X.K C) (I : Inv X pins σ H s) (e : H a = some (exo a C none)) (hu : s.heap.get? u = some (PySem.W.kxs_mw "ValueError.__init__" a)) (hl : us.length ≤ sizeLine) (h : ∀ s', Inv X pins σ H s' → Q .none s') :
    wpAny (model X.prog X.w) A (call (.ref u) us) Q E s := by
  obtain ⟨nm, q, N, bs, bm, sn, sub, ab, col, dd, k0, k1, k2, k3, k5, hC, hbm⟩ := T.cls
  have hC' := I.kIn _ _ hC
  obtain ⟨t1, ho⟩ := exo_at I.hok e
  obtain ⟨hp, g, d, t, os⟩ := s
  refine wpAny_call (codeAny_of_tree ?_)
  show wpAny _ A.in1 (callAny (.ref u) ⟨us, []⟩) _ _ _
  simp only [callAny]
  refine wpAny_bind (wpAny_load hu ?_)
  simp only [PySem.W.kxs_mw, show (Value.type "method-wrapper" == Value.type "method" || Value.type "method-wrapper" == Value.type "builtin_function_or_method" || Value.type "method-wrapper" == Value.type "method-wrapper") = true by decide, if_true]
  refine PySem.W.KFB.if_so (by decide) ?_
  refine wpAny_bind (PySem.W.check_bound_init F.excBase_ValueError.toExcCallFacts hC' ho rfl ?_)
  refine wpAny_bind (wpAny_pure (wpAny_pure ?_))
  refine ⟨plainId_quiet F.excBase_ValueError.init.plain _, codeAny_builtin F.excBase_ValueError.initEntry ?_⟩
  refine PySem.W.exc_init_tree (cls := .ref C) (t0 := t1) (dv := none) (c2 := .none) (c3 := .none) (b4 := .bool false) ho hl fun h' k hx _ => ?_
  have J := I.write (t' := t) (x := a) (e := a) (o := exo a C none) (by rw [e]; exact True.intro) (.inl rfl) k ⟨_, hx⟩ (exo_ok hx)
  have eu : upd H a (exo a C none) = H := by
    funext b
    by_cases hb : b = a
    · rw [hb, upd_same, e]
    · rw [upd_ne hb]
  rw [eu] at J
  exact h _ J
/-- THE RULE: an __init__ of an own error, its first statement super().__init__(msg) -/
theorem sup_ok {CX : CXT} {P : Program} {w : World} {K : PySem.W.Frag} {mg : Str → Option Value} {base : Heap} {k : Nat} {C fI cc : Addr} {F : NF} {N : List Str} {fl : Str} {msg : Expr} {rest : List Stmt} {p0 p1 p2 p3 p4 : Pos} {oc doc pm ctv : Value} {od : Option Addr} {osl : Array (Option Value)} {ar : Arg} {sp : Sp} {pl : Addr → Sem Bool}
    (T : SupC P K C fI cc F) (lk : K.lookup fI = some ⟨oc, od, .func (F.fd doc pm ctv), osl⟩) (hm : mg "super" = none) (S : NScope N ["self", fl] ["__class__"] F.scope)
    (hbody : F.body = .Expr (.Call (.Attribute (.Call (.Name "super" p0) [] [] p1) "__init__" p2) [msg] [] p3) p4 :: rest)
    (hpar : (F.params.posonlyargs ++ F.params.args).head? = some ar) (har : ar.arg = "self") (hks : F.scope.names.lookup ("super" : Str) = some .globalImplicit)
    (len : ∀ vs H Q E, sp vs H Q E → vs.length = 2)
    (h : ∀ (A : Around) (outer : List Env) (s : Shared) (H : Hp) (vs : List V) (Q : VK) (E : XK), Room k (A.deeper (envF F fI s.heap.objs.size)) → sp vs H Q E →
      ∃ (a : Addr) (y : V) (tm : TE) (t2 : TS), vs = [.ref a, y] ∧ H a = some (exo a C none) ∧ PE (ncx CX P w K mg base N F fI A outer s H E) msg tm ∧ PSs (ncx CX P w K mg base N F fI A outer s H E) rest t2 ∧
        tm (startF N vs [none]) H fun v H1 => [v].length = 1 ∧ H1 a = some (exo a C none) ∧ t2 { nx := fun _ H' => Q .non H', rt := Q } (startF N vs [none]) H1)
    (he : ∀ L : Addr, eval (.Call (.Attribute (.Call (.Name "super" p0) [] [] p1) "__init__" p2) [msg] [] p3) (envF F fI L) = (do
      let ov ← attributeBase (.Call (.Name "super" p0) [] [] p1) "__init__" (envF F fI L) (eval (.Call (.Name "super" p0) [] [] p1) (envF F fI L))
      standAt p2.atName
      let (f, first) ← holding [ov] (getMethod ov "__init__" (pl L))
      callWith p3 f first (backTo p3 (starEach [msg] (envF F fI L))) []))
    (hst : ∀ L : Addr, starEach [msg] (envF F fI L) = (false, eval msg (envF F fI L)) :: starEach [] (envF F fI L))
    (hsw : ∀ L : Addr, swapsWith (.Call (.Attribute (.Call (.Name "super" p0) [] [] p1) "__init__" p2) [msg] [] p3) none p4.line (envF F fI L) = pure false) :
    FnOk P w K mg base CX (k + 1) fI (F.fd doc pm ctv) ["self", fl] sp := by
  refine ⟨len, fun A outer s H args us vs Q E hr e0 hb r hsp => ?_⟩
  have hl := len _ _ _ _ hsp
  have KX : K.In s.heap := e0.mod.kin.keeps fun b o e => (e0.bs b o e).1
  have lim : s.heap.NoLimit := e0.mod.nolimit.keeps fun b o e => (e0.bs b o e).1
  obtain ⟨ccl, cdd, vsC, ccs, file, tf, hcode, hvs, hfile⟩ := T.code
  obtain ⟨cl1, cld, csl, hcell⟩ := T.cell
  have hcl : F.cl.lookup ("__class__" : Str) = some cc := by rw [T.cl]; rfl
  have hclA : ∀ y c, F.cl.lookup y = some c → y = ("__class__" : Str) ∧ c = cc := fun y c e => by
    rw [T.cl] at e
    by_cases hy : y = ("__class__" : Str)
    · subst hy
      exact ⟨rfl, (Option.some.inj e).symm⟩
    · have hb : (y == ("__class__" : Str)) = false := beq_false_of_ne hy
      simp only [List.lookup, hb] at e
      cases e
  have CA : CellsAt F.cl ["__class__"] [none] s.heap H := {
    len := rfl
    all := fun y c e => by
      obtain ⟨_, rfl⟩ := hclA y c e
      have hbk := e0.mod.kin _ _ hcell
      exact ⟨(e0.bs _ _ hbk).2, _, _, (e0.bs _ _ hbk).1, rfl⟩
    inj := fun x y c e1 e2 => (hclA x c e1).1.trans (hclA y c e2).1.symm
    has := fun i y e => by
      cases i with
      | zero =>
        have ey : y = ("__class__" : Str) := (Option.some.inj e).symm
        subst ey
        exact ⟨cc, hcl, fun v ev => by cases ev⟩
      | succ i => cases e }
  refine codeAny_call_function hr.depth (KX _ _ lk) rfl S.co S.gen rfl (PySem.W.codeRec_of KX T.cd) (hb _ _ _ _ ?_)
  refine wpAny_newFunctionEnv S.nocell (fun ⟨n, _⟩ hy => S.par n (List.of_mem_zip hy).1) (fun h₁ hns hsb => ⟨lim.fresh _ hsb, ?_⟩) S.kind
  show codeAny _ _ (.func F.body (envF F fI s.heap.objs.size)) _ _
  refine ks_codeAny_funcAt ?_
  have kp : ∀ b o, s.heap.get? b = some o → h₁.get? b = some o := fun b o e => hsb.extBut b o (Nat.ne_of_lt (Heap.lt_size e)) (Heap.get?_push_of_some _ e)
  obtain ⟨a, y, tm, t2, ev, ha, hm1, h2, hq⟩ := h A outer s H vs Q E (hr.deeper _) hsp
  have I : Inv (ncx CX P w K mg base N F fI A outer s H E) [] (startF N vs [none]) H { s with heap := h₁, toks := s.toks + (([("self" : Str), fl] : List Str).zip us).length } := inv_startN S hr.hd e0 hl r CA hns kp
  generalize hs1 : ({ s with heap := h₁, toks := s.toks + (([("self" : Str), fl] : List Str).zip us).length } : Shared) = s1 at I ⊢
  have KX1 : K.In s1.heap := I.kIn
  obtain ⟨nm, q, NN, bs, bm, sn, sub, ab, col, dd, k0, k1, k2, k3, k5, hC, hbm⟩ := T.oex.cls
  have hC1 := KX1 _ _ hC
  obtain ⟨t1, ho⟩ := exo_at I.hok ha
  have hne : a ≠ C := fun e => by
    rw [e, hC1] at ho
    cases ho
  rw [show execs F.body (envF F fI s.heap.objs.size) = execs (.Expr (.Call (.Attribute (.Call (.Name "super" p0) [] [] p1) "__init__" p2) [msg] [] p3) p4 :: rest) (envF F fI s.heap.objs.size) by rw [hbody]]
  refine ks_wpAt_execs_cons (ks_wpAt_Expr_any (ks_wpAt_MethodCall (pl := pl s.heap.objs.size) (ks_wpAt_super_base (env := envF F fI s.heap.objs.size) hks (S.frk "__class__" (List.mem_singleton.mpr rfl)) (by decide) rfl (KX1 _ _ lk) rfl hpar rfl (KX1 _ _ hcode) rfl hvs hfile T.top ?_) (he _)) I.quiet (hsw _))
  obtain ⟨mb, hb1, hb2⟩ := I.mod.blt
  refine PySem.W.ks_loadName_global S.kind hks (PySem.Calls.loadGlobal_builtin (I.mod.glob.keeps I.bk) hm (hb1.keeps I.bk) ((hb2 "super" (by decide)).trans (by decide +kernel : bootBuiltins "super" = some (.type "super"))) ⟨rfl, ?_⟩)
  refine wpAny_loadName_free S.kind (S.frk "__class__" (List.mem_singleton.mpr rfl)) hcl ⟨_, KX1 _ _ hcell, rfl⟩ ?_
  rw [har]
  have hself : F.scope.names.lookup ("self" : Str) = some .local := S.par "self" (List.mem_cons_self ..)
  obtain ⟨m, hnsM, hsl⟩ := I.loc
  have hN0 : N[(0 : Nat)]? = some ("self" : Str) := by
    have e := S.pre
    cases N with
    | nil => cases e
    | cons n N =>
      have e2 : n :: N.take 2 = ("self" : Str) :: [fl, "__class__"] := e
      rw [List.cons.injEq] at e2
      rw [e2.1]
      rfl
  have hms : m ("self" : Str) = some (.ref a) := by
    obtain ⟨u, ru, lu⟩ := hsl 0 "self" (.ref a) hN0 (by rw [ev]; rfl) (.inl hself)
    obtain rfl : u = Value.ref a := ru
    rcases lu with lu | ⟨lu, _⟩
    · exact lu.2
    · rw [show (ncx CX P w K mg base N F fI A outer s H E).env.kindOf "self" = some .local from hself] at lu
      rcases lu with z | z <;> cases z
  refine wpAny_loadName_local S.kind hself hnsM hms ?_
  obtain ⟨hp1, g1, d1, tk1, os1⟩ := s1
  refine ks_wpAny_isType_cls hC1 rfl ⟨rfl, ?_⟩
  refine ks_wpAny_call_super hC1 rfl ho rfl (fun c e => by cases e) (PySem.W.looks_mroIn KX1 T.own) (fun h' e kk => ?_)
  have I2 := I.kept (t' := tk1) kk
  have KX2 : K.In h' := I2.kIn
  have hC2 := KX2 _ _ hC
  have ho2 := kk _ _ ho
  have hcls : PySem.W.clsIn K C = some { name := nm, bases := bs, mro := .ref C :: bm, ns := NN, qualname := q, hasDict := true, slotNames := sn, subclasses := sub, abstract := ab, collection := col, hasDel := false } := by
    unfold PySem.W.clsIn
    rw [hC] <;> rfl
  have hini := T.ini
  unfold PySem.W.ks_superIn at hini
  rw [hcls, Option.bind_some] at hini
  have Ia : PySem.W.InstAt h' a _ C none := ⟨ho2, rfl, rfl, trivial⟩
  refine PySem.W.kxs_getMethod PySem.W.kxs_ValueError e (PySem.W.looks_opaque KX2 T.opq) (l₀ := .ref C :: bm) (fun A Q E s k q => wpAny_bind ((PySem.W.looks_clsIn KX2 hcls) A _ E s k (wpAny_pure q))) rfl KX2 hini (Ia.type.andThen (PySem.W.looks_subIn KX2 T.ve)) hne (by decide) ?_
  have kp3 : ∀ b o, h'.get? b = some o → (h'.push (PySem.W.kxs_mw "ValueError.__init__" a)).get? b = some o := fun b o e => Heap.get?_push_of_some _ e
  have I3 := I2.kept (h' := h'.push (PySem.W.kxs_mw "ValueError.__init__" a)) (t' := tk1 + 1) kp3
  have hu3 : (h'.push (PySem.W.kxs_mw "ValueError.__init__" a)).get? h'.objs.size = some (PySem.W.kxs_mw "ValueError.__init__" a) := Heap.get?_push_at rfl rfl
  have I4 : Inv (ncx CX P w K mg base N F fI A outer s H E) [(h'.objs.size, PySem.W.kxs_mw "ValueError.__init__" a)] (startF N vs [none]) H _ := I3.pins_of fun p hp => by
    rw [List.mem_singleton.mp hp]
    exact ⟨hu3, I2.hok.fresh (Nat.le_refl _), Nat.ne_of_gt I2.lt, I2.nofs (Nat.le_refl _), fun v z => by cases z⟩
  have ha1 : PA (ncx CX P w K mg base N F fI A outer s H E) [msg] _ := pa_cons hm1 pa_nil (hst _)
  have hst' := hst s.heap.objs.size
  refine PySem.W.kxs_callWith (i := "ValueError.__init__") (x := a) (by rw [hst']; rfl) ?_
  rw [hst']
  refine PySem.Calls.evalArgs_plain ?_
  have hrun := ha1.run p3 _ _ (startF N vs [none]) H (fun vs' H1 => vs'.length = 1 ∧ H1 a = some (exo a C none) ∧ t2 { nx := fun _ H' => Q .non H', rt := Q } (startF N vs [none]) H1) I4 ?_
  · have hst2 : backTo p3 (starEach [msg] (ncx CX P w K mg base N F fI A outer s H E).env) = backTo p3 ((false, eval msg (envF F fI s.heap.objs.size)) :: starEach [] (envF F fI s.heap.objs.size)) := congrArg (backTo p3) hst'
    rw [hst2] at hrun
    refine wpAny_mono hrun (fun ws s2 hw => ?_) fun e s' he => he
    obtain ⟨vs', H1, J, rv, hlen, ha2, hq2⟩ := hw
    have hu := (J.pin _ (List.mem_append_right _ (List.mem_singleton.mpr rfl))).1
    refine ⟨hu, ?_⟩
    have J0 : Inv (ncx CX P w K mg base N F fI A outer s H E) [] (startF N vs [none]) H1 s2 := J.pins_of fun p hp => by cases hp
    refine call_mw T.oex J0 ha2 hu (by
      show ws.length ≤ _
      rw [← rv.length, hlen, sizeLine_eq]; decide) fun s3 J3 => ?_
    refine wpAt_of_wpAny ?_
    refine wpAny_mono (h2.run [] s3 _ H1 _ J3 hq2) (fun fl s' hs => ?_) fun e s' hs => hs
    have fin : ∀ {σ' : L2.St} {H' : Hp} {v : V} {u : Value}, Inv (ncx CX P w K mg base N F fI A outer s H E) [] σ' H' s' → L2.RelV v u → Q v H' → CE outer P w H s Q u s' :=
      fun {σ' H' v u} J rv q => ⟨v, H', J.os, J.bare, J.base, J.hok, rv, q⟩
    cases fl with
    | ret u =>
      obtain ⟨v, σ', H', J, rv, q⟩ := hs
      exact fin J rv q
    | next =>
      obtain ⟨σ', H', J, q⟩ := hs
      exact fin (v := V.non) (u := Value.none) J rfl q
    | brk =>
      obtain ⟨_, _, _, q⟩ := hs
      exact False.elim q
    | cont =>
      obtain ⟨_, _, _, q⟩ := hs
      exact False.elim q
  · exact hq
end
end EX
/-! own errors: made, their fields, isinstance of them -/
namespace EX
open PySem PySem.Spec PyProof.Rows L2 NdefX
set_option autoImplicit false
section
variable {X : Cx}
/-- {x}: a text, an int or None, as a text that is not told -/
def MsgOk (x : V) : Prop := (∃ y : Str, x = .str y ∧ y.length ≤ 1000) ∨ (∃ i : Int, x = .int i ∧ i.natAbs.log2 < 1920) ∨ x = .non
def tFmtN (te : TE) : TE := fun σ H Q => te σ H fun x H1 => MsgOk x ∧ ∀ y : Str, y.length ≤ 10000 → Q (.str y) H1
theorem int_text {i : Int} (h : i.natAbs.log2 < 1920) : (Str.ofString (toString i)).length ≤ 10000 := by
  have e := int_text_length_le (k := 1920) (by decide) h
  rw [PySem.ofString_length]
  omega
theorem pe_fmtN {e : Expr} {te : TE} {pos : Pos} (he : PE X e te) : PE X (.FormattedValue e (-1) none pos) (tFmtN te) := by
  refine ⟨fun pins s σ H Q I h => ?_⟩
  refine wpAny_FormattedValue_plain (thn (he.run pins s σ H _ I h) fun v s1 hv => ?_)
  obtain ⟨x, H1, I1, r1, q, k⟩ := hv
  rcases q with ⟨y, rfl, hz⟩ | ⟨i, rfl, hz⟩ | rfl
  · obtain ⟨t, rfl⟩ := r1
    have q := k y (by omega)
    exact wpAny_formatField_str ⟨.str y, H1, I1, ⟨t, rfl⟩, q⟩ ⟨.str y, H1, I1.tok _, ⟨_, rfl⟩, q⟩ (by rw [sizeLine_eq]; omega)
  · obtain ⟨t, rfl⟩ := r1
    exact wpAny_formatField_int hz ⟨.str (toString i), H1, I1.tok _, ⟨_, rfl⟩, k _ (int_text hz)⟩
  · obtain rfl : v = Value.none := r1
    exact wpAny_formatField_none ⟨.str "None", H1, I1.tok _, ⟨_, rfl⟩, k "None" (by decide)⟩
/-- one argument, its end weakened -/
theorem pa_one {e : Expr} {te : TE} (he : PE X e te) (hs : starEach [e] X.env = (false, eval e X.env) :: starEach [] X.env := by rfl) : PA X [e] (fun σ H Q => ∃ Q0 : VK, te σ H Q0 ∧ ∀ y H1, Q0 y H1 → Q [y] H1) := by
  have h1 : PA X [e] _ := pa_cons he pa_nil hs
  refine ⟨fun pos pins s σ H Q I h => ?_⟩
  obtain ⟨Q0, h0, k⟩ := h
  have h2 := h1.run pos pins s σ H (fun vs H1 => ∃ y, vs = [y] ∧ Q0 y H1) I ?_
  · refine thn h2 fun us s1 hh => ?_
    obtain ⟨vs, H1, J, rv, y, rfl, q⟩ := hh
    exact ⟨[y], H1, J, rv, k y H1 q⟩
  · have e2 : (fun (x : V) (H1 : Hp) => ∃ y, [x] = [y] ∧ Q0 y H1) = Q0 := by
      funext x H1
      exact propext ⟨fun ⟨y, e, q⟩ => by cases e; exact q, fun q => ⟨x, rfl, q⟩⟩
    show te σ H (fun (x : V) (H1 : Hp) => ∃ y, [x] = [y] ∧ Q0 y H1)
    rw [e2]
    exact h0
end
/-! ### the class -/
def oexB (K : PySem.W.Frag) (C : Addr) : Bool := match K.lookup C with
  | some ⟨.type "type", _, .cls cd, sl⟩ => (match cd.mro, sl.toList with
    | .ref C' :: bm, [_, _, _, _, some (.builtin n), _] => C' == C && n == "ValueError.__new__" && !cd.hasDel && cd.hasDict && PySem.HandSPX.refsVE bm
    | _, _ => false)
  | _ => false
theorem oexB_ok {K : PySem.W.Frag} {C : Addr} (q : oexB K C = true) : ∃ nm q N bs bm sn sub ab col dd k0 k1 k2 k3 k5, K.lookup C = some (excClassObj nm q C N bs bm true sn sub ab col dd k0 k1 k2 k3 k5 "ValueError.__new__") ∧ PySem.HandSPX.refsVE bm = true := by
  unfold oexB at q
  split at q
  · rename_i dd cd sl ho
    split at q
    · rename_i C' bm k0 k1 k2 k3 n k5 hm hs
      simp only [Bool.and_eq_true, beq_iff_eq, Bool.not_eq_true'] at q
      obtain ⟨⟨⟨⟨rfl, rfl⟩, hdel⟩, hh⟩, ht⟩ := q
      obtain ⟨nm, bs, mro, ns, qn, hd, sn, sub, ab, col, del⟩ := cd
      dsimp only at hm hdel hh
      subst hm hdel hh
      have hsl : sl = #[k0, k1, k2, k3, some (.builtin "ValueError.__new__"), k5] := by
        obtain ⟨l⟩ := sl
        simp only at hs
        rw [hs]
      subst hsl
      exact ⟨nm, qn, ns, bs, bm, sn, sub, ab, col, dd, k0, k1, k2, k3, k5, ho, ht⟩
    · cases q
  · cases q
/-- an own error's class -/
structure ErrC (K : PySem.W.Frag) (C : Addr) : Prop where
  oex : OexC K C
  xf : XfC K C
  ha : PySem.W.findIn K (.ref C) "__class__" = some (some (.builtin "object.__class__"))
  hn : PySem.W.specialIn K (.builtin "object.__class__") "__get__" = some (some (.builtin "getset_descriptor.__get__"))
  ht : PySem.W.takesIn K (.builtin "object.__class__") = some true
  hm : PySem.W.mroIn K C (.type "object") = some true
def errB (K : PySem.W.Frag) (C : Addr) : Bool := oexB K C && (decide (PySem.W.findIn K (.ref C) "__setattr__" = some (some (.builtin "object.__setattr__"))) && (decide (PySem.W.subIn K (.ref C) (.type "BaseException") = some true) && (decide (PySem.W.typeIn K (.ref C) = some (.type "type")) && (PySem.W.keepIn K (.ref C) && (xfB K C &&
  (decide (PySem.W.findIn K (.ref C) "__class__" = some (some (.builtin "object.__class__"))) && (decide (PySem.W.specialIn K (.builtin "object.__class__") "__get__" = some (some (.builtin "getset_descriptor.__get__"))) && (decide (PySem.W.takesIn K (.builtin "object.__class__") = some true) && decide (PySem.W.mroIn K C (.type "object") = some true)))))))))
theorem errB_ok {K : PySem.W.Frag} {C : Addr} (h : errB K C = true) : ErrC K C := by
  unfold errB at h
  simp only [Bool.and_eq_true, decide_eq_true_eq] at h
  obtain ⟨h1, h2, h3, h4, h5, h6, h7, h8, h9, h10⟩ := h
  exact ⟨⟨oexB_ok h1, h2, h3, h4, h5⟩, xfB_ok h6, h7, h8, h9, h10⟩
/-! ### a caught error: its fields, isinstance -/
def tXfE (K : PySem.W.Frag) (a : Addr) (cls : Value) (d : Option Addr) (f : Str) (te : TE) : TE := fun σ H Q => te σ H fun x H1 => ∃ C : Addr, x = .ref a ∧ cls = .ref C ∧ ErrC K C ∧ PySem.W.findIn K (.ref C) f = some none ∧ ∃ (dd : Addr) (fs : List (Str × V)) (v : V), d = some dd ∧ H1 dd = some (.xd fs) ∧ fs.lookup f = some v ∧ Q v H1
theorem pe_xfE {X : Cx} {a : Addr} {oe : Obj} {cls : Value} {d : Option Addr} {pn : List (Addr × Obj)} {e : Expr} {te : TE} {pos : Pos} {n : Str}
    (hz : Zc cls d oe) (hf : ∃ vs, oe.data = .fields vs) (he : PE (X.suite a ((a, oe) :: pn)) e te) (hb : attributeBase e n X.env (eval e X.env) = eval e X.env := by rfl) :
    PE (X.suite a ((a, oe) :: pn)) (.Attribute e n pos) (tXfE X.K a cls d n te) := by
  refine ⟨fun pins s σ H Q I h => ?_⟩
  refine attr_of hb (thn (he.run pins s σ H _ I h) fun u s1 hh => ?_)
  obtain ⟨x, H1, I1, rx, C, ex, ec, T, hno, dd, fs, v, ed, ea, l, q⟩ := hh
  subst ex
  obtain rfl : u = Value.ref a := rx
  subst ec
  subst ed
  obtain ⟨ha, _⟩ := I1.pin (a, oe) (List.mem_append_left _ List.mem_cons_self)
  obtain ⟨vs, hd⟩ := hf
  have hx : ObjOk X.prog X.w H1 s1.heap dd (.xd fs) := I1.hok dd _ ea
  obtain ⟨mA, hns, hr⟩ := hx
  obtain ⟨od, ho, hl⟩ := lookIn_ns hns
  obtain ⟨u, hu, ru⟩ := RelO.some_of (v := v) (o := mA n) (by rw [← l]; exact hr n)
  have J : PySem.W.InstAt s1.heap a oe C (some od) := ⟨ha, hz.1, by unfold PySem.W.notCls; rw [hd] <;> rfl, by rw [hz.2]; exact ho⟩
  exact HandSPX.exc_get I1.kIn J T.xf.ga T.xf.gg T.xf.exC (PySem.W.findObj_own T.xf.hdC hno rfl (by rw [hl, hu])) (handed_of ru) ⟨v, H1, I1.tok _, ru, q⟩
theorem kit_err {K : PySem.W.Frag} {C x : Addr} {ox : Obj} {od : Option Obj} (T : ErrC K C) : PySem.W.KitX K (.ref x) (.ref C) (fun h => PySem.W.InstAt h x ox C od) := by
  have hf : PySem.W.findObj K C od "__class__" = some (.bind (.builtin "getset_descriptor.__get__") (.builtin "object.__class__")) := PySem.W.findObj_dataE (by obtain ⟨cd, hc, _⟩ := PySem.W.any_some T.xf.hdC; rw [hc]; rfl) T.ha T.hn T.ht
  exact {
    ty := fun _ _ _ I => I.type
    it := fun _ _ X _ => by
      obtain ⟨cdD, hcD, _⟩ := PySem.W.any_some T.xf.hdC
      unfold PySem.W.clsIn at hcD
      split at hcD
      · rename_i c' d' cd' sl' ho
        intro A' Q' E' s' k q
        unfold isType loadHead
        exact wpAny_bind (wpAny_loadPart (k _ _ (X _ _ ho)) (wpAny_pure q))
      · cases hcD
    ne := fun h tp dd its n sl X htp => by
      obtain ⟨cdD, hcD, _⟩ := PySem.W.any_some T.xf.hdC
      refine Bool.eq_false_iff.mpr fun q => ?_
      have e : C = tp := Value.ref.inj (beq_iff_eq.mp q)
      subst e
      unfold PySem.W.clsIn at hcD
      split at hcD
      · rename_i c' d' cd' sl' ho
        have z := (X _ _ ho).symm.trans htp
        cases z
      · cases hcD
    ca := fun X I k => PySem.W.kx_classE X I T.xf.ga T.xf.gg T.xf.exC hf T.hm k }
/-- isinstance(e, c), e the exception that the suite holds -/
def rIsX (K : PySem.W.Frag) (a : Addr) (cls : Value) (d : Option Addr) : List V → Hp → VK → Prop := fun xs H Q => ∃ (C : Addr) (c : V) (cv : Value) (b : Bool), xs = [.ref a, c] ∧ cls = .ref C ∧ ErrC K C ∧ (∀ dd, d = some dd → ∃ fs, H dd = some (.xd fs)) ∧ (∀ u, RelV c u → u = cv) ∧ PySem.W.kitOne K (.ref C) cv = some b ∧ Q (.bl b) H
theorem inst_err {X : Cx} {pins pn : List (Addr × Obj)} {σ : L2.St} {H : Hp} {s : Shared} {a C : Addr} {oe : Obj} {d : Option Addr} (I : Inv (X.suite a ((a, oe) :: pn)) pins σ H s) (hz : Zc (.ref C) d oe) (hf : ∃ vs, oe.data = .fields vs) (hd : ∀ dd, d = some dd → ∃ fs, H dd = some (.xd fs)) : ∃ od, PySem.W.InstAt s.heap a oe C od := by
  obtain ⟨hget, _⟩ := I.pin (a, oe) (List.mem_append.mpr (.inl List.mem_cons_self))
  obtain ⟨vs, hv⟩ := hf
  cases d with
  | none => exact ⟨none, hget, hz.1, by unfold PySem.W.notCls; rw [hv] <;> rfl, by rw [hz.2]; trivial⟩
  | some dd =>
    obtain ⟨fs, e⟩ := hd dd rfl
    have hx : ObjOk X.prog X.w H s.heap dd (.xd fs) := I.hok dd _ e
    obtain ⟨mA, hns, hr⟩ := hx
    obtain ⟨od, ho, hl⟩ := lookIn_ns hns
    exact ⟨some od, hget, hz.1, by unfold PySem.W.notCls; rw [hv] <;> rfl, by rw [hz.2]; exact ho⟩
theorem call_isX {X : Cx} {a : Addr} {oe : Obj} {cls : Value} {d : Option Addr} {pn : List (Addr × Obj)} (hz : Zc cls d oe) (hf : ∃ vs, oe.data = .fields vs) : CallR (X.suite a ((a, oe) :: pn)) (.builtin "isinstance") (rIsX X.K a cls d) := by
  intro pins s σ H xs us Q I r h
  obtain ⟨C, c, cv, b, rfl, rfl, T, hd, hcv, e, q⟩ := h
  cases r with
  | cons rx rr =>
    cases rr with
    | cons rt rr =>
      cases rr
      cases rx
      have ec := hcv _ rt
      subst ec
      obtain ⟨od, J⟩ := inst_err I hz hf hd
      exact PySem.W.kia_one (kit_err T) I.kIn J e (fun z => nomatch z) fun tk => ⟨.bl b, H, I.kept (t' := tk) fun _ _ z => z, rfl, q⟩
/-- isinstance(e, (c, ..)) -/
def rIsXT (K : PySem.W.Frag) (a : Addr) (cls : Value) (d : Option Addr) : List V → Hp → VK → Prop := fun xs H Q => ∃ (C t : Addr) (cs : List V) (cvs : List Value) (b : Bool), xs = [.ref a, .ref t] ∧ cls = .ref C ∧ ErrC K C ∧ (∀ dd, d = some dd → ∃ fs, H dd = some (.xd fs)) ∧ H t = some (.tup cs) ∧ (∀ us, Vals cs us → us = cvs) ∧ PySem.W.kitAny K (.ref C) cvs = some b ∧ Q (.bl b) H
theorem call_isXT {X : Cx} {a : Addr} {oe : Obj} {cls : Value} {d : Option Addr} {pn : List (Addr × Obj)} (hz : Zc cls d oe) (hf : ∃ vs, oe.data = .fields vs) : CallR (X.suite a ((a, oe) :: pn)) (.builtin "isinstance") (rIsXT X.K a cls d) := by
  intro pins s σ H xs us Q I r h
  obtain ⟨C, t, cs, cvs, b, rfl, rfl, T, hd, ht, hcv, e, q⟩ := h
  cases r with
  | cons rx rr =>
    cases rr with
    | cons rt rr =>
      cases rr
      cases rx
      cases rt
      obtain ⟨od, J⟩ := inst_err I hz hf hd
      have hx : ObjOk X.prog X.w H s.heap t (.tup cs) := I.hok t _ ht
      obtain ⟨hl, its, hv, ⟨oc, od', dt, sl⟩, ho, hc, n, hd2⟩ := hx
      dsimp only at hc hd2
      subst hc hd2
      have eI := hcv _ hv
      subst eI
      exact PySem.W.kia_tup (kit_err T) I.kIn J ho e (fun z => nomatch z) fun tk => ⟨.bl b, H, I.kept (t' := tk) fun _ _ z => z, rfl, q⟩
/-! ### an error is made -/
/-- what __init__ promises -/
def spErr (C : Addr) (fl : Str) (ok : V → Prop) : Sp := fun vs H Q _ => ∃ (a : Addr) (y : V), vs = [.ref a, y] ∧ H a = some (exo a C none) ∧ ok y ∧ ∀ dx, H dx = none → dx ≠ a → Q .non (upd (upd H dx (exd dx [(fl, y)])) a (exo a C (some dx)))
/-- C(e): the class, its dict with the one field -/
def tMkE (C : Addr) (fl : Str) (ok : V → Prop) (te : TE) : L2.St → Hp → XK → Prop := fun σ H Q => te σ H fun y H1 => ok y ∧ ∀ d, H1 d = none → Q (.ref C) (some d) (upd H1 d (.xd [(fl, y)]))
theorem pmk_err {X : Cx} {x fl : Str} {ok : V → Prop} {C fI : Addr} {fd : FuncData} {k : Nat} {e : Expr} {te : TE} {p pos : Pos} (T : ErrC X.K C) (iC : PySem.W.findIn X.K (.ref C) "__init__" = some (some (.ref fI))) (tI : PySem.W.typeIn X.K (.ref fI) = some (.type "function"))
    (F1 : FnOk X.prog X.w X.K X.mg X.base CX0 k fI fd ["self", fl] (spErr C fl ok)) (hr : Room (k + 1) X.A) (hb : Binds X.K fd ["self", fl] []) (hg : Gl X x) (hm : X.mg x = some (.ref C)) (he : PE X e te)
    (hdb : (x == ("__debug__" : Str)) = false := by decide) (hs : starEach [e] X.env = (false, eval e X.env) :: starEach [] X.env := by rfl) : PMk X (.Call (.Name x p) [e] [] pos) (tMkE C fl ok te) := by
  intro pins s σ H Q I h
  have h0 := pmk_oex (p := p) (pos := pos) T.oex iC tI F1 hr hb .nil pass0 hg hm (pa_one he hs) hdb hs (by rfl)
  refine h0 pins s σ H Q I ⟨_, h, fun y H1 ⟨oky, k⟩ => ⟨by show 1 ≤ 1000; decide, fun a na => ⟨a, y, rfl, upd_same, oky, fun dx ndx ne => ?_⟩⟩⟩
  have n1 : H1 dx = none := by
    rw [upd_ne ne] at ndx
    exact ndx
  refine ⟨rfl, dx, [(fl, y)], upd_same, (upd_ne ne).trans upd_same, n1, ?_⟩
  have eh : upd (del (upd (upd (upd H1 a (exo a C none)) dx (exd dx [(fl, y)])) a (exo a C (some dx))) a) dx (.xd [(fl, y)]) = upd H1 dx (.xd [(fl, y)]) := by
    funext b
    by_cases h1 : b = dx
    · rw [h1, upd_same, upd_same]
    · rw [upd_ne h1, upd_ne h1]
      by_cases h2 : b = a
      · rw [h2, del_same, na]
      · rw [del_ne h2, upd_ne h2, upd_ne h1, upd_ne h2]
  rw [eh]
  exact k dx n1
/-- C(), no own __init__ -/
theorem pmk_err0 {X : Cx} {x : Str} {C : Addr} {p pos : Pos} (q : PySem.W.excIn X.K C He.veBase "ValueError.__new__" = true) (T : ErrC X.K C) (hg : Gl X x) (hm : X.mg x = some (.ref C))
    (hdb : (x == ("__debug__" : Str)) = false := by decide) : PMk X (.Call (.Name x p) [] [] pos) (fun _ H Q => Q (.ref C) none H) := by
  intro pins s σ H Q I h
  refine wpAny_Call_Name_kw (ld_glob I hg hm ?_ hdb)
  refine PySem.W.callWith_K0 I.kIn T.oex.kC ?_
  obtain ⟨bm, N, nm, qn, bs, hdct, sn, sub, ab, col, dd, k0, k1, k2, k3, k5, mN, hC, hN, hni, Tl⟩ := exc_obj I.kIn q
  refine wpAny_call_exc_subT F.excBase_ValueError Tl hC hN hni (fun h' e hm => ?_) (by show 0 ≤ sizeLine; rw [sizeLine_eq]; omega)
  exact mk_of I hm (raises_own T.oex.exC T.oex.tyC) h (I.hok.gone hm.new)
end EX
/-! own errors as the top leaves them -/
namespace EX
open PySem PySem.Spec PyProof.Rows L2 NdefX
set_option autoImplicit false
/-- an error class with its __init__(self, fl) -/
structure DfE (P : Program) (K : PySem.W.Frag) (mg : Str → Option Value) (x fl : Str) (ok : V → Prop) where
  C : Addr
  fI : Addr
  fd : FuncData
  g : mg x = some (.ref C)
  T : ErrC K C
  iC : PySem.W.findIn K (.ref C) "__init__" = some (some (.ref fI))
  tI : PySem.W.typeIn K (.ref fI) = some (.type "function")
  no : PySem.W.findIn K (.ref C) fl = some none
  b : Binds K fd ["self", fl] []
  F : ∀ (w : World) (base : Heap), FnOk P w K mg base CX0 1 fI fd ["self", fl] (spErr C fl ok)
/-- an error class without an __init__ -/
structure DfE0 (K : PySem.W.Frag) (mg : Str → Option Value) (x : Str) where
  C : Addr
  g : mg x = some (.ref C)
  T : ErrC K C
  q : PySem.W.excIn K C He.veBase "ValueError.__new__" = true
/-! ### the two bodies -/
theorem app_len (a b : Str) : (a ++ b).length = a.length + b.length := by
  show (a.cps ++ b.cps).size = a.cps.size + b.cps.size
  rw [Array.size_append]
section
variable {P : Program} {w : World} {K : PySem.W.Frag} {mg : Str → Option Value} {base : Heap} {C fI cc : Addr} {F : NF} {fl : Str} {oc doc pm ctv : Value} {od : Option Addr} {osl : Array (Option Value)} {ar : Arg}
/-- f'.. {fl}' -/
theorem init_f {p0 p1 p2 p3 p4 q1 q2 q3 q4 q5 q6 q7 q8 : Pos} {m : Str} {j : Nat} {pl : Addr → Sem Bool} (T : SupC P K C fI cc F) (lk : K.lookup fI = some ⟨oc, od, .func (F.fd doc pm ctv), osl⟩) (hm : mg "super" = none) (S : NScope ["self", fl, "__class__"] ["self", fl] ["__class__"] F.scope) (no : PySem.W.findIn K (.ref C) fl = some none)
    (hbody : F.body = [.Expr (.Call (.Attribute (.Call (.Name "super" p0) [] [] p1) "__init__" p2) [.JoinedStr [.Constant (.str m) j q1, .FormattedValue (.Name fl q2) (-1) none q3] q4] [] p3) p4, .Assign [.Attribute (.Name "self" q5) fl q6] (.Name fl q7) q8]) (hml : m.length ≤ 1000)
    (hpar : (F.params.posonlyargs ++ F.params.args).head? = some ar) (har : ar.arg = "self") (hks : F.scope.names.lookup ("super" : Str) = some .globalImplicit) (hdb : (fl == ("__debug__" : Str)) = false) (hdc : (fl == ("__classdict__" : Str)) = false)
    (he : ∀ L : Addr, eval (.Call (.Attribute (.Call (.Name "super" p0) [] [] p1) "__init__" p2) [.JoinedStr [.Constant (.str m) j q1, .FormattedValue (.Name fl q2) (-1) none q3] q4] [] p3) (envF F fI L) = (do
      let ov ← attributeBase (.Call (.Name "super" p0) [] [] p1) "__init__" (envF F fI L) (eval (.Call (.Name "super" p0) [] [] p1) (envF F fI L))
      standAt p2.atName
      let (f, first) ← holding [ov] (getMethod ov "__init__" (pl L))
      callWith p3 f first (backTo p3 (starEach [.JoinedStr [.Constant (.str m) j q1, .FormattedValue (.Name fl q2) (-1) none q3] q4] (envF F fI L))) [])) :
    FnOk P w K mg base CX0 1 fI (F.fd doc pm ctv) ["self", fl] (spErr C fl MsgOk) := by
  have vs : F.scope.names.lookup ("self" : Str) = some .local := S.par "self" (List.mem_cons_self ..)
  have vf : F.scope.names.lookup fl = some .local := S.par fl (List.mem_cons_of_mem _ (List.mem_cons_self ..))
  refine sup_ok (k := 0) T lk hm S hbody hpar har hks (fun vs H Q E h => ?_) (fun A outer s H vs Q E hr h => ?_) he (fun L => rfl) (fun L => rfl)
  · obtain ⟨a, y, rfl, _⟩ := h
    rfl
  · obtain ⟨a, y, rfl, ha, ok, k⟩ := h
    refine ⟨a, y, _, _, rfl, ha, pe_joined (.cons pe_str (.cons (pe_fmtN (pe_var (i := 1) rfl (.inl vf) (hd := hdb) (hcd := hdc))) .nil)), pss_one (ps_ost (pe_var (i := 0) rfl (.inl vs)) (pe_var (i := 1) rfl (.inl vf) (hd := hdb) (hcd := hdc)) (by rfl)), ?_⟩
    refine ⟨m, rfl, by rw [app_len, sizeLine_eq]; show 0 + _ ≤ _; omega, y, rfl, ok, fun z hz => ⟨z, rfl, by rw [app_len, app_len, sizeLine_eq]; show 0 + _ + _ ≤ _; omega, rfl, ha, y, rfl, .ref a, rfl, a, C, rfl, T.oex, no, .inl ⟨ha, fun dx n1 n2 => k dx n1 n2⟩⟩⟩
/-- a written text -/
theorem init_c {p0 p1 p2 p3 p4 q1 q5 q6 q7 q8 : Pos} {m : Str} {j : Nat} {pl : Addr → Sem Bool} (T : SupC P K C fI cc F) (lk : K.lookup fI = some ⟨oc, od, .func (F.fd doc pm ctv), osl⟩) (hm : mg "super" = none) (S : NScope ["self", fl, "__class__"] ["self", fl] ["__class__"] F.scope) (no : PySem.W.findIn K (.ref C) fl = some none)
    (hbody : F.body = [.Expr (.Call (.Attribute (.Call (.Name "super" p0) [] [] p1) "__init__" p2) [.Constant (.str m) j q1] [] p3) p4, .Assign [.Attribute (.Name "self" q5) fl q6] (.Name fl q7) q8])
    (hpar : (F.params.posonlyargs ++ F.params.args).head? = some ar) (har : ar.arg = "self") (hks : F.scope.names.lookup ("super" : Str) = some .globalImplicit) (hdb : (fl == ("__debug__" : Str)) = false) (hdc : (fl == ("__classdict__" : Str)) = false)
    (he : ∀ L : Addr, eval (.Call (.Attribute (.Call (.Name "super" p0) [] [] p1) "__init__" p2) [.Constant (.str m) j q1] [] p3) (envF F fI L) = (do
      let ov ← attributeBase (.Call (.Name "super" p0) [] [] p1) "__init__" (envF F fI L) (eval (.Call (.Name "super" p0) [] [] p1) (envF F fI L))
      standAt p2.atName
      let (f, first) ← holding [ov] (getMethod ov "__init__" (pl L))
      callWith p3 f first (backTo p3 (starEach [.Constant (.str m) j q1] (envF F fI L))) [])) :
    FnOk P w K mg base CX0 1 fI (F.fd doc pm ctv) ["self", fl] (spErr C fl fun _ => True) := by
  have vs : F.scope.names.lookup ("self" : Str) = some .local := S.par "self" (List.mem_cons_self ..)
  have vf : F.scope.names.lookup fl = some .local := S.par fl (List.mem_cons_of_mem _ (List.mem_cons_self ..))
  refine sup_ok (k := 0) T lk hm S hbody hpar har hks (fun vs H Q E h => ?_) (fun A outer s H vs Q E hr h => ?_) he (fun L => rfl) (fun L => rfl)
  · obtain ⟨a, y, rfl, _⟩ := h
    rfl
  · obtain ⟨a, y, rfl, ha, ok, k⟩ := h
    refine ⟨a, y, _, _, rfl, ha, pe_str, pss_one (ps_ost (pe_var (i := 0) rfl (.inl vs)) (pe_var (i := 1) rfl (.inl vf) (hd := hdb) (hcd := hdc)) (by rfl)), ?_⟩
    exact ⟨rfl, ha, y, rfl, .ref a, rfl, a, C, rfl, T.oex, no, .inl ⟨ha, fun dx n1 n2 => k dx n1 n2⟩⟩
end
/-! ### the top's facts -/
/-- an __init__: its class, its field, its def -/
structure InD where
  cls : Str
  qual : Str
  fld : Str
  params : Arguments
  body : List Stmt
  scope : Scope
abbrev FnY : Type := Option (Str × Str × Arguments × FuncBody × Scope × Addr × Value × Value × Option Addr × Addr)
def fnY (K : PySem.W.Frag) (x : Str) : FnY := match K.lookup (He.ma K (He.ga K x) "__init__") with
  | some ⟨_, _, .func fd, _⟩ => some (fd.name, fd.qualname, fd.params, fd.body, fd.scope, fd.globals, fd.defaults, fd.kwdefaults, fd.annotations, fd.builtins)
  | _ => none
def InD.val (d : InD) : FnY := some ("__init__", d.qual, d.params, .stmts d.body, d.scope, mainGlobals, .none, .none, none, builtinsNs)
/-- the code object of the program's own text -/
def codeB (P : Program) (K : PySem.W.Frag) (c : Addr) (q : Str) : Bool := PySem.W.codeIn K (.ref c) q && (match K.lookup c with
  | some ⟨_, _, .fields vs, _⟩ => (match (vs[2]? : Option Value) with
    | some (Value.str file _) => (P.main.file : Str) == file
    | _ => false)
  | _ => false)
def codeV (P : Program) (K : PySem.W.Frag) (v : Value) (q : Str) : Bool := match v with
  | .ref c => codeB P K c q
  | _ => false
def cellB (K : PySem.W.Frag) (C c : Addr) : Bool := match K.lookup c with
  | some ⟨_, _, .cell (some (.ref D)), _⟩ => D == C
  | _ => false
def clB (K : PySem.W.Frag) (C : Addr) (l : List (Str × Addr)) : Bool := match l with
  | [(y, c)] => decide (y = "__class__") && cellB K C c
  | _ => false
def fdB (P : Program) (K : PySem.W.Frag) (C fI : Addr) : Bool := match K.lookup fI with
  | some ⟨_, _, .func fd, _⟩ => clB K C fd.closure && codeV P K fd.code fd.qualname
  | _ => false
def supB (P : Program) (K : PySem.W.Frag) (d : InD) : Bool := errB K (He.ga K d.cls) && (fdB P K (He.ga K d.cls) (He.ma K (He.ga K d.cls) "__init__") && (decide (PySem.W.nsIn K cStatics "thirdparty.any" = some none) && (decide (PySem.W.ks_superIn K (He.ga K d.cls) (He.ga K d.cls) "__init__" = some (some (.builtin "ValueError.__init__"))) &&
  (decide (PySem.W.subIn K (.ref (He.ga K d.cls)) (.type "ValueError") = some true) && (decide (PySem.W.mroIn K (He.ga K d.cls) (.ref (He.ga K d.cls)) = some true) && (decide (PySem.W.findIn K (.ref (He.ga K d.cls)) "__init__" = some (some (.ref (He.ma K (He.ga K d.cls) "__init__")))) &&
  (decide (PySem.W.typeIn K (.ref (He.ma K (He.ga K d.cls) "__init__")) = some (.type "function")) && (decide (PySem.W.findIn K (.ref (He.ga K d.cls)) d.fld = some none) && He.eqO (PySem.W.nsIn K mainGlobals d.cls) (some (some (.ref (He.ga K d.cls))))))))))))
theorem cellB_ok {K : PySem.W.Frag} {C c : Addr} (h : cellB K C c = true) : ∃ (cl : Value) (cld : Option Addr) (csl : Array (Option Value)), K.lookup c = some (⟨cl, cld, .cell (some (.ref C)), csl⟩ : Obj) := by
  unfold cellB at h
  split at h
  · rename_i a b D s e
    have : D = C := eq_of_beq h
    subst this
    exact ⟨a, b, s, e⟩
  · cases h
theorem codeB_ok {P : Program} {K : PySem.W.Frag} {c : Addr} {q : Str} (h : codeB P K c q = true) : PySem.W.codeIn K (.ref c) q = true ∧ ∃ (ccl : Value) (cdd : Option Addr) (vs : Array Value) (ccs : Array (Option Value)) (file : Str) (tf : Tok), K.lookup c = some (⟨ccl, cdd, .fields vs, ccs⟩ : Obj) ∧ vs[2]? = some (Value.str file tf) ∧ ((P.main.file : Str) == file) = true := by
  unfold codeB at h
  obtain ⟨h1, h⟩ := Bool.and_eq_true_iff.mp h
  refine ⟨h1, ?_⟩
  split at h
  · rename_i a b vs s e
    split at h
    · rename_i file t e2
      exact ⟨a, b, vs, s, file, t, e, e2, h⟩
    · cases h
  · cases h
/-- what is known of the class behind the top -/
theorem init_at {P : Program} {K : PySem.W.Frag} {d : InD} (e : fnY K d.cls = d.val) (c : supB P K d = true) (top : (P.main.scope.names.lookup ("super" : Str)).isSome = false) :
    ∃ (F : NF) (cc : Addr) (oc doc pm ctv : Value) (od : Option Addr) (osl : Array (Option Value)), F.name = "__init__" ∧ F.qual = d.qual ∧ F.params = d.params ∧ F.body = d.body ∧ F.scope = d.scope ∧ SupC P K (He.ga K d.cls) (He.ma K (He.ga K d.cls) "__init__") cc F ∧ K.lookup (He.ma K (He.ga K d.cls) "__init__") = some ⟨oc, od, .func (F.fd doc pm ctv), osl⟩ := by
  unfold supB at c
  simp only [Bool.and_eq_true, decide_eq_true_eq] at c
  obtain ⟨c1, c2, c3, c4, c5, c6, c7, c8, c9, c10⟩ := c
  have E := errB_ok c1
  unfold fdB at c2
  unfold fnY at e
  cases q : K.lookup (He.ma K (He.ga K d.cls) "__init__") with
  | none =>
    rw [q] at c2
    cases c2
  | some o =>
    obtain ⟨oc, od, dt, osl⟩ := o
    rw [q] at c2 e
    cases dt with
    | func fd =>
      obtain ⟨n1, n2, n3, n4, n5, n6, n7, n8, n9, n10, n11, n12, n13, n14, n15⟩ := fd
      have e2 : (some (n1, n2, n3, n4, n5, n6, n8, n9, n12, n15) : FnY) = some (("__init__" : Str), d.qual, d.params, FuncBody.stmts d.body, d.scope, mainGlobals, Value.none, Value.none, (none : Option Addr), builtinsNs) := e
      simp only [Option.some.injEq, Prod.mk.injEq] at e2
      obtain ⟨h1, h2, h3, h4, h5, h6, h7, h8, h9, h10⟩ := e2
      subst h1 h2 h3 h4 h5 h6 h7 h8 h9 h10
      have c3' : (clB K (He.ga K d.cls) n7 && codeV P K n13 d.qual) = true := c2
      obtain ⟨k1, k2⟩ := Bool.and_eq_true_iff.mp c3'
      unfold clB at k1
      split at k1
      · rename_i y cc
        obtain ⟨k3, k4⟩ := Bool.and_eq_true_iff.mp k1
        have ey : y = "__class__" := of_decide_eq_true k3
        subst ey
        cases n13 with
        | ref cd =>
          obtain ⟨k5, k6⟩ := codeB_ok k2
          exact ⟨⟨"__init__", d.qual, d.params, d.body, d.scope, [("__class__", cc)], cd⟩, cc, oc, n10, n11, n14, od, osl, rfl, rfl, rfl, rfl, rfl, ⟨E.oex, rfl, k5, k6, cellB_ok k4, top, c3, c4, c5, c6⟩, rfl⟩
        | _ => cases k2
      · cases k1
    | _ => cases c2
theorem mkE {P : Program} {K : PySem.W.Frag} {h : Heap} {mg : Str → Option Value} {d : InD} {ok : V → Prop} (X : K.In h) (G : h.Ns mainGlobals mg) (e : fnY K d.cls = d.val) (c : supB P K d = true) (top : (P.main.scope.names.lookup ("super" : Str)).isSome = false)
    (hb : ∀ (F : NF) (doc pm ctv : Value) (us : List Value), F.name = "__init__" → F.qual = d.qual → F.params = d.params → F.body = d.body → F.scope = d.scope → us.length = 2 → bindArgs (F.fd doc pm ctv) ⟨us, []⟩ = pure ((([("self" : Str), d.fld] : List Str)).zip us))
    (hF : ∀ (F : NF) (cc : Addr) (oc doc pm ctv : Value) (od : Option Addr) (osl : Array (Option Value)) (w : World) (base : Heap), F.params = d.params → F.body = d.body → F.scope = d.scope → SupC P K (He.ga K d.cls) (He.ma K (He.ga K d.cls) "__init__") cc F →
      K.lookup (He.ma K (He.ga K d.cls) "__init__") = some ⟨oc, od, .func (F.fd doc pm ctv), osl⟩ → PySem.W.findIn K (.ref (He.ga K d.cls)) d.fld = some none → FnOk P w K mg base CX0 1 (He.ma K (He.ga K d.cls) "__init__") (F.fd doc pm ctv) ["self", d.fld] (spErr (He.ga K d.cls) d.fld ok)) :
    ∃ D : DfE P K mg d.cls d.fld ok, D.C = He.ga K d.cls := by
  obtain ⟨F, cc, oc, doc, pm, ctv, od, osl, f1, f2, f3, f4, f5, S, lk⟩ := init_at e c top
  unfold supB at c
  simp only [Bool.and_eq_true, decide_eq_true_eq] at c
  obtain ⟨c1, c2, c3, c4, c5, c6, c7, c8, c9, c10⟩ := c
  exact ⟨⟨He.ga K d.cls, He.ma K (He.ga K d.cls) "__init__", F.fd doc pm ctv, PySem.W.mg_of X G (He.eqO_ok c10), errB_ok c1, c7, c8, c9, .all fun us hl => hb F doc pm ctv us f1 f2 f3 f4 f5 hl, fun w base => hF F cc oc doc pm ctv od osl w base f3 f4 f5 S lk c9⟩, rfl⟩
/-! ### the Hook -/
def ex0B (K : PySem.W.Frag) (x : Str) : Bool := errB K (He.ga K x) && (PySem.W.excIn K (He.ga K x) He.veBase "ValueError.__new__" && He.eqO (PySem.W.nsIn K mainGlobals x) (some (some (.ref (He.ga K x)))))
/-- isinstance of an instance of x, y: b -/
def kitB (K : PySem.W.Frag) (p : Str × Str × Bool) : Bool := decide (PySem.W.kitOne K (.ref (He.ga K p.1)) (.ref (He.ga K p.2.1)) = some p.2.2)
abbrev AlX : Type := He.AlD × Bool × List FnY
/-- an own class that isinstance, == and != ask -/
structure OwnC (K : PySem.W.Frag) (C : Addr) : Prop where
  ha : PySem.W.findIn K (.ref C) "__class__" = some (some (.builtin "object.__class__"))
  hn : PySem.W.specialIn K (.builtin "object.__class__") "__get__" = some (some (.builtin "getset_descriptor.__get__"))
  ht : PySem.W.takesIn K (.builtin "object.__class__") = some true
  hm : PySem.W.mroIn K C (.type "object") = some true
  me : PySem.W.kitOne K (.ref C) (.ref C) = some true
  ne : PySem.W.findIn K (.ref C) "__ne__" = some (some (.builtin "object.__ne__"))
def ownB (K : PySem.W.Frag) (x : Str) : Bool := decide (PySem.W.findIn K (.ref (He.ga K x)) "__class__" = some (some (.builtin "object.__class__"))) && (decide (PySem.W.specialIn K (.builtin "object.__class__") "__get__" = some (some (.builtin "getset_descriptor.__get__"))) && (decide (PySem.W.takesIn K (.builtin "object.__class__") = some true) &&
  (decide (PySem.W.mroIn K (He.ga K x) (.type "object") = some true) && (decide (PySem.W.kitOne K (.ref (He.ga K x)) (.ref (He.ga K x)) = some true) && decide (PySem.W.findIn K (.ref (He.ga K x)) "__ne__" = some (some (.builtin "object.__ne__")))))))
theorem ownB_ok {K : PySem.W.Frag} {x : Str} (h : ownB K x = true) : OwnC K (He.ga K x) := by
  unfold ownB at h
  simp only [Bool.and_eq_true, decide_eq_true_eq] at h
  obtain ⟨h1, h2, h3, h4, h5, h6⟩ := h
  exact ⟨h1, h2, h3, h4, h5, h6⟩
/-- isinstance of a value of the built-in class T, y: false; y is no such class's own -/
structure KtyF (K : PySem.W.Frag) (T : String) (C : Addr) : Prop where
  no : PySem.W.kitOne K (.type T) (.ref C) = some false
  nf : PySem.W.notFirst K C (.type T) = true
def ktyB (K : PySem.W.Frag) (p : String × Str) : Bool := decide (PySem.W.kitOne K (.type p.1) (.ref (He.ga K p.2)) = some false) && PySem.W.notFirst K (He.ga K p.2) (.type p.1)
theorem ktyB_ok {K : PySem.W.Frag} {p : String × Str} (h : ktyB K p = true) : KtyF K p.1 (He.ga K p.2) := by
  unfold ktyB at h
  simp only [Bool.and_eq_true, decide_eq_true_eq] at h
  exact ⟨h.1, h.2⟩
/-- isinstance of an object of the class y, the built-in class T: false -/
def ktnB (K : PySem.W.Frag) (p : Str × String) : Bool := decide (PySem.W.kitOne K (.ref (He.ga K p.1)) (.type p.2) = some false)
/-- an object of the class y beside one of the class x: no instance, and not asked first -/
structure NfC (K : PySem.W.Frag) (C C' : Addr) : Prop where
  no : PySem.W.kitOne K (.ref C') (.ref C) = some false
  nf : PySem.W.notFirst K C (.ref C') = true
def nfcB (K : PySem.W.Frag) (p : Str × Str) : Bool := decide (PySem.W.kitOne K (.ref (He.ga K p.2)) (.ref (He.ga K p.1)) = some false) && PySem.W.notFirst K (He.ga K p.1) (.ref (He.ga K p.2))
structure Xs where
  ini : List InD := []
  ex : List Str := []
  kit : List (Str × Str × Bool) := []
  exm : List (Str × Str × Bool) := []
  own : List Str := []
  kty : List (String × Str) := []
  ktn : List (Str × String) := []
  nfc : List (Str × Str) := []
def Xs.ok (P : Program) (x : Xs) (K : PySem.W.Frag) : Bool := x.ini.all (supB P K) && (x.ex.all (ex0B K) && (x.kit.all (kitB K) && ((x.exm.all fun p => (He.Fa.exm p.1 p.2.1 p.2.2).ok K) && (x.own.all (ownB K) && (x.kty.all (ktyB K) && (x.ktn.all (ktnB K) && x.nfc.all (nfcB K)))))))
def obsX (P : Program) (fa : List He.Fa) (fn : List He.DefD) (x : Xs) (K : PySem.W.Frag) : AlX := (He.obsD fa fn K, x.ok P K, x.ini.map fun d => fnY K d.cls)
def valX (fn : List He.DefD) (x : Xs) : AlX := (He.valD fn, true, x.ini.map InD.val)
def obsXG (P : Program) (n : Nat) (fa : List He.Fa) (fn : List He.DefD) (x : Xs) (g : Addr → Option Obj) : AlX := obsX P fa fn x (He.frG g (cStatics :: He.asD g n))
def SaysX (P : Program) (fa : List He.Fa) (fn : List He.DefD) (x : Xs) (K : PySem.W.Frag) : Prop := obsX P fa fn x K = valX fn x
def hookX (P : Program) (n : Nat) (fa : List He.Fa) (fn : List He.DefD) (x : Xs) : PySem.W.Hook where
  α := AlX
  obs := fun s => obsXG P n fa fn x s.heap.get?
  val := fun _ => valX fn x
  says := fun _ h => ∃ K : PySem.W.Frag, K.In h ∧ SaysX P fa fn x K
  of := fun _ _ e => ⟨_, He.frG_in, e⟩
  keeps := fun _ _ _ ⟨K, hK, c⟩ k => ⟨K, PySem.W.Frag.In.keeps hK k, c⟩
theorem obsXG_eq {P : Program} {n : Nat} {fa : List He.Fa} {fn : List He.DefD} {x : Xs} {g : Addr → Option Obj} {s : Shared} (h : ∀ a, g a = s.heap.get? a) : obsXG P n fa fn x g = (hookX P n fa fn x).obs s := by
  have e : g = s.heap.get? := funext h
  rw [e] <;> rfl
section
variable {P : Program} {fa : List He.Fa} {fn : List He.DefD} {x : Xs} {K : PySem.W.Frag}
theorem SaysX.d (c : SaysX P fa fn x K) : He.SaysD fa fn K := congrArg (fun z : AlX => z.1) c
theorem SaysX.b (c : SaysX P fa fn x K) : x.ok P K = true := congrArg (fun z : AlX => z.2.1) c
theorem SaysX.ini (c : SaysX P fa fn x K) (i : Nat) {d : InD} (h : x.ini[i]? = some d := by rfl) : supB P K d = true ∧ fnY K d.cls = d.val := by
  obtain ⟨b, _⟩ := Bool.and_eq_true_iff.mp c.b
  refine ⟨List.all_eq_true.mp b d (List.mem_of_getElem? h), ?_⟩
  have e : x.ini.map (fun d => fnY K d.cls) = x.ini.map InD.val := congrArg (fun z : AlX => z.2.2) c
  have e2 : (x.ini.map fun d => fnY K d.cls)[i]? = (x.ini.map InD.val)[i]? := by rw [e]
  rw [List.getElem?_map, List.getElem?_map, h] at e2
  exact Option.some.inj e2
theorem SaysX.ex {h : Heap} {mg : Str → Option Value} (c : SaysX P fa fn x K) (X : K.In h) (G : h.Ns mainGlobals mg) (i : Nat) {y : Str} (hy : x.ex[i]? = some y := by rfl) : ∃ D : DfE0 K mg y, D.C = He.ga K y := by
  obtain ⟨_, b⟩ := Bool.and_eq_true_iff.mp c.b
  obtain ⟨b, _⟩ := Bool.and_eq_true_iff.mp b
  have z := List.all_eq_true.mp b y (List.mem_of_getElem? hy)
  unfold ex0B at z
  simp only [Bool.and_eq_true] at z
  exact ⟨⟨He.ga K y, PySem.W.mg_of X G (He.eqO_ok z.2.2), errB_ok z.1, z.2.1⟩, rfl⟩
theorem SaysX.kit (c : SaysX P fa fn x K) (i : Nat) {p : Str × Str × Bool} (hy : x.kit[i]? = some p := by rfl) : PySem.W.kitOne K (.ref (He.ga K p.1)) (.ref (He.ga K p.2.1)) = some p.2.2 := by
  obtain ⟨_, b⟩ := Bool.and_eq_true_iff.mp c.b
  obtain ⟨_, b⟩ := Bool.and_eq_true_iff.mp b
  obtain ⟨b, _⟩ := Bool.and_eq_true_iff.mp b
  exact of_decide_eq_true (List.all_eq_true.mp b p (List.mem_of_getElem? hy))
theorem SaysX.exm (c : SaysX P fa fn x K) (i : Nat) {p : Str × Str × Bool} (hy : x.exm[i]? = some p := by rfl) : PySem.W.exmOne K (.ref (He.ga K p.1)) (.ref (He.ga K p.2.1)) = some p.2.2 := by
  obtain ⟨_, b⟩ := Bool.and_eq_true_iff.mp c.b
  obtain ⟨_, b⟩ := Bool.and_eq_true_iff.mp b
  obtain ⟨_, b⟩ := Bool.and_eq_true_iff.mp b
  obtain ⟨b, _⟩ := Bool.and_eq_true_iff.mp b
  exact He.exm_ok (List.all_eq_true.mp b p (List.mem_of_getElem? hy))
theorem SaysX.own (c : SaysX P fa fn x K) (i : Nat) {y : Str} (hy : x.own[i]? = some y := by rfl) : OwnC K (He.ga K y) := by
  obtain ⟨_, b⟩ := Bool.and_eq_true_iff.mp c.b
  obtain ⟨_, b⟩ := Bool.and_eq_true_iff.mp b
  obtain ⟨_, b⟩ := Bool.and_eq_true_iff.mp b
  obtain ⟨_, b⟩ := Bool.and_eq_true_iff.mp b
  obtain ⟨b, _⟩ := Bool.and_eq_true_iff.mp b
  exact ownB_ok (List.all_eq_true.mp b y (List.mem_of_getElem? hy))
theorem SaysX.kty (c : SaysX P fa fn x K) (i : Nat) {p : String × Str} (hy : x.kty[i]? = some p := by rfl) : KtyF K p.1 (He.ga K p.2) := by
  obtain ⟨_, b⟩ := Bool.and_eq_true_iff.mp c.b
  obtain ⟨_, b⟩ := Bool.and_eq_true_iff.mp b
  obtain ⟨_, b⟩ := Bool.and_eq_true_iff.mp b
  obtain ⟨_, b⟩ := Bool.and_eq_true_iff.mp b
  obtain ⟨_, b⟩ := Bool.and_eq_true_iff.mp b
  obtain ⟨b, _⟩ := Bool.and_eq_true_iff.mp b
  exact ktyB_ok (List.all_eq_true.mp b p (List.mem_of_getElem? hy))
theorem SaysX.ktn (c : SaysX P fa fn x K) (i : Nat) {p : Str × String} (hy : x.ktn[i]? = some p := by rfl) : PySem.W.kitOne K (.ref (He.ga K p.1)) (.type p.2) = some false := by
  obtain ⟨_, b⟩ := Bool.and_eq_true_iff.mp c.b
  obtain ⟨_, b⟩ := Bool.and_eq_true_iff.mp b
  obtain ⟨_, b⟩ := Bool.and_eq_true_iff.mp b
  obtain ⟨_, b⟩ := Bool.and_eq_true_iff.mp b
  obtain ⟨_, b⟩ := Bool.and_eq_true_iff.mp b
  obtain ⟨_, b⟩ := Bool.and_eq_true_iff.mp b
  obtain ⟨b, _⟩ := Bool.and_eq_true_iff.mp b
  exact of_decide_eq_true (List.all_eq_true.mp b p (List.mem_of_getElem? hy))
theorem SaysX.nfc (c : SaysX P fa fn x K) (i : Nat) {p : Str × Str} (hy : x.nfc[i]? = some p := by rfl) : NfC K (He.ga K p.1) (He.ga K p.2) := by
  obtain ⟨_, b⟩ := Bool.and_eq_true_iff.mp c.b
  obtain ⟨_, b⟩ := Bool.and_eq_true_iff.mp b
  obtain ⟨_, b⟩ := Bool.and_eq_true_iff.mp b
  obtain ⟨_, b⟩ := Bool.and_eq_true_iff.mp b
  obtain ⟨_, b⟩ := Bool.and_eq_true_iff.mp b
  obtain ⟨_, b⟩ := Bool.and_eq_true_iff.mp b
  obtain ⟨_, b⟩ := Bool.and_eq_true_iff.mp b
  have q := List.all_eq_true.mp b p (List.mem_of_getElem? hy)
  unfold nfcB at q
  simp only [Bool.and_eq_true, decide_eq_true_eq] at q
  exact ⟨q.1, q.2⟩
end
end EX
/-! The law's own def, run where nothing is being shown (no guard stands): repr of lists and tuples there. -/
namespace GA
open PySem PySem.Spec PyProof.Rows L2
/-- the def keeps its promise when the law's caller calls it -/
structure FnAt (P : Program) (w : World) (K : PySem.W.Frag) (mg : Str → Option Value) (base : Heap) (f : Addr) (fd : FuncData) (ps : List Str) (sp : Sp) : Prop where
  run : ∀ (s : Shared) (H : Hp) (args : Args) (us : List Value) (vs : List V) (Q : VK) (E : XK), Env0 P w K mg base callerA [] s H → BindsTo s fd args (ps.zip us) → Vals vs us → sp vs H Q E →
    codeAny (model P w) callerA (.call (.ref f) args) (CR CX0 [] P w H s Q E) s
section
variable {P : Program} {w : World} {K : PySem.W.Frag} {mg : Str → Option Value} {base : Heap} {x qual : Str} {params : Arguments} {body : List Stmt} {scope : Scope} {dvs : List V} {kws : List (Str × V)} {f : Addr} {fd : FuncData}
theorem okAt {N ps : List Str} {k : Nat} {sp : Sp} (F : FunD K x qual params body scope dvs kws f fd) (S : FnScope N ps scope) (hR : Room (k + 1) callerA) (len : ∀ vs H Q E, sp vs H Q E → vs.length = ps.length)
    (bd : ∀ (cdv : Value) (s : Shared) (H : Hp) (vs : List V) (Q : VK) (E : XK), Room k (callerA.deeper (envOfC qual scope s.heap.objs.size f cdv)) → sp vs H Q E →
      ∃ t, PSs (cxOf CX0 P w K mg base N qual scope f cdv callerA [] s H E) body t ∧ t { nx := fun _ H' => Q .non H', rt := Q } (start N vs) H) : FnAt P w K mg base f fd ps sp := by
  obtain ⟨oc, od, dV, kV, doc, pm, an, cdv, ct, osl, rfl, lk, hcd, _, _⟩ := F.ex
  refine ⟨fun s H args us vs Q E e0 hb r hsp => ?_⟩
  have vl := len _ _ _ _ hsp
  have kx : K.In s.heap := e0.mod.kin.keeps fun b o e => (e0.bs b o e).1
  have nl : s.heap.NoLimit := e0.mod.nolimit.keeps fun b o e => (e0.bs b o e).1
  have kinds : ∀ y ∈ ps.zip us, scope.names.lookup y.1 = some .local ∨ (scope.names.lookup y.1 = some .cell ∧ ((cellsFrom (s.heap.objs.size + 1) scope.names []).lookup y.1).isSome = true) := by
    rintro ⟨y1, y2⟩ hy
    rcases S.par y1 (List.of_mem_zip hy).1 with q | q
    · left; exact q
    · right; exact ⟨q, PySem.W.cellsFrom_some _ _ _ (.inl q)⟩
  refine codeAny_call_function hR.depth (kx _ _ lk) rfl S.co S.gen rfl (PySem.W.codeRec_of kx hcd) (hb _ _ _ _ ?_)
  refine wpAny_newFunctionEnv_cells S.kind kinds fun env ee s1 ic => ?_
  subst ee
  refine ⟨nl.keeps ic.toInCall.keep, codeAny_func ?_⟩
  obtain ⟨t, pt, rd⟩ := bd cdv s H vs Q E (hR.deeper _) hsp
  have iv : L2.Inv (cxOf CX0 P w K mg base N qual scope f cdv callerA [] s H E) [] (start N vs) H s1 := inv_start S hR.hd e0 vl r ic
  refine wpAny_mono (pt.run [] s1 (start N vs) H _ iv rd) (fun fl s2 q => ?_) fun e s2 q => q
  have out : ∀ {σ2 : L2.St} {H2 : Hp} {a : V} {u : Value}, L2.Inv (cxOf CX0 P w K mg base N qual scope f cdv callerA [] s H E) [] σ2 H2 s2 → RelV a u → Q a H2 → CE [] P w H s Q u s2 := by
    intro σ2 H2 a u J ra qa
    exact ⟨a, H2, J.os, J.bare, J.base, J.hok, ra, qa⟩
  cases fl with
  | ret u =>
    obtain ⟨a, σ2, H2, J, ra, qa⟩ := q
    exact out J ra qa
  | next =>
    obtain ⟨σ2, H2, J, qa⟩ := q
    exact out (a := V.non) (u := Value.none) J rfl qa
  | brk =>
    obtain ⟨_, _, _, z⟩ := q
    exact z.elim
  | cont =>
    obtain ⟨_, _, _, z⟩ := q
    exact z.elim
end
/-- the law's call -/
theorem lawAt {P : Program} {w : World} {K : PySem.W.Frag} {mg mb : Str → Option Value} {fa a : Addr} {fd : FuncData} {x : Str} {sp : Sp} {s₁ : Shared} {vs : List Value} {ns : List Int}
    (kx : K.In s₁.heap) (hn : s₁.heap.Ns mainGlobals mg) (hb : s₁.heap.Ns builtinsNs mb) (hbb : ∀ y : Str, y ≠ "__name__" → mb y = bootBuiltins y) (lim : s₁.heap.NoLimit) (hg : s₁.gens = #[])
    (ha : s₁.heap.get? a = some { cls := .type "list", data := .seq vs.toArray }) (hi : IntsAre vs ns) (hl : ns.length ≤ sizeLine)
    (F : ∀ base : Heap, K.In base → base.Ns mainGlobals mg → FnAt P w K mg base fa fd [x] sp) (bd : ∀ (s : Shared) (u : Value), BindsTo s fd ⟨[u], []⟩ [(x, u)])
    (hsp : ∀ H : Hp, Only H → SqL K H a (ns.map V.int) → sp [.ref a] H (fun v _ => v = .bl true) fun _ _ _ => False) :
    codeAny (model P w) callerA (.call (.ref fa) ⟨[.ref a], []⟩) (fun r s' => r = .ok (.ret (.bool true)) ∧ OldK s₁.heap s'.heap ∧ s'.os = s₁.os ∧ AllBare s'.gens) s₁ := by
  have rel := vals_ints hi
  have lenV := hi.length
  have main : ∀ H : Hp, Only H → SqL K H a (ns.map V.int) → HOk P w H s₁.heap → (∀ b, H b ≠ none → b = a) → (H a ≠ none → K.lookup a = none) →
      codeAny (model P w) callerA (.call (.ref fa) ⟨[.ref a], []⟩) (fun r s' => r = .ok (.ret (.bool true)) ∧ OldK s₁.heap s'.heap ∧ s'.os = s₁.os ∧ AllBare s'.gens) s₁ := by
    intro H only sq ok onlyA notK
    have low : ∀ {b : Addr} {o : Obj}, s₁.heap.get? b = some o → H b = none → (hidT s₁.heap H).get? b = some o := fun e z => hidT_get e z
    have noD : ∀ {b : Addr} {o : Obj} {es : Array DictEntry} {ep : Nat}, s₁.heap.get? b = some o → o.data = .dict es ep → H b = none := by
      intro b o es ep e d
      cases q : H b with
      | none => rfl
      | some u =>
        have eb := onlyA b (by rw [q]; simp)
        subst eb
        rw [ha] at e
        cases e
        cases (show Data.seq vs.toArray _ = Data.dict es ep from d)
    have nsL : ∀ {b : Addr} {m : Str → Option Value}, s₁.heap.Ns b m → (hidT s₁.heap H).Ns b m := by
      rintro b m ⟨o, es, ep, e, d, r⟩
      exact ⟨o, es, ep, low e (noD e d), d, r⟩
    have kb : K.In (hidT s₁.heap H) := fun b o e => low (kx b o e) (by
      cases q : H b with
      | none => rfl
      | some u =>
        have eb := onlyA b (by rw [q]; simp)
        subst eb
        have z := notK (by rw [q]; simp)
        rw [z] at e
        cases e)
    have hM : Mod K mg (hidT s₁.heap H) := ⟨kb, nsL hn, ⟨mb, nsL hb, hbb⟩, by
      obtain ⟨mc, z1, z2⟩ := lim
      exact ⟨mc, nsL z1, z2⟩⟩
    have e0 : Env0 P w K mg (hidT s₁.heap H) callerA [] s₁ H := ⟨rfl, hM, fun b o e => of_hidT e, Nat.le_of_eq (hidT_size _ _), trivial, fun b q => absurd (show b ∈ ([] : List Addr) from q) (by simp), ok, .of_eq hg⟩
    refine codeAny_mono ((F _ kb (nsL hn)).run s₁ H ⟨[.ref a], []⟩ [.ref a] [.ref a] _ _ e0 (bd s₁ (.ref a)) (.cons rfl .nil) (hsp H only sq)) fun r s2 h => ?_
    cases r with
    | error e => exact (show False from h).elim
    | ok fl =>
      cases fl with
      | next => exact (show False from h).elim
      | brk => exact (show False from h).elim
      | cont => exact (show False from h).elim
      | ret u =>
        obtain ⟨v, H2, os, bare, un, ok2, rv, qv⟩ := h
        obtain rfl : v = .bl true := qv
        obtain rfl : u = Value.bool true := rv
        refine ⟨rfl, OldK.of_keep fun b o e => ?_, os, bare⟩
        cases q : H b with
        | none => exact un.keep b o e q (fun z => absurd (show b ∈ ([] : List Addr) from z) (by simp)) (by simp)
        | some u =>
          rcases only b with z | ⟨ob, xs, z⟩
          · rw [q] at z
            cases z
          · have z2 := un.frzs b ob _ z
            obtain ⟨e1, _⟩ := ok b _ z
            obtain ⟨e2, _⟩ := ok2 b _ z2
            rw [e] at e1
            cases e1
            exact e2
  cases hk : K.lookup a with
  | some o =>
    have e := kx a o hk
    rw [ha] at e
    cases e
    exact main (fun _ => none) (fun _ => .inl rfl) (.inr ⟨_, vs.toArray, _, hk, rfl, rfl, rfl, by rw [List.size_toArray, lenV]; exact hl, by simpa using rel⟩) (fun b u z => by cases (show (none : Option HO) = some u from z)) (fun b z => absurd rfl z) fun z => absurd rfl z
  | none =>
    refine main (fun b => if b = a then some (.frz { cls := .type "list", data := .seq vs.toArray } (.lst (ns.map V.int))) else none) (fun b => ?_) (.inl (.inr ⟨{ cls := .type "list", data := .seq vs.toArray }, if_pos rfl⟩)) (fun b u z => ?_) (fun b z => ?_) fun _ => hk
    · by_cases c : b = a
      · exact .inr ⟨_, _, if_pos c⟩
      · exact .inl (if_neg c)
    · by_cases c : b = a
      · have y := (if_pos c).symm.trans z
        cases y
        subst c
        exact ⟨ha, by rw [List.length_map]; exact hl, vs, _, rel, ha⟩
      · have y := (if_neg c).symm.trans z
        cases y
    · by_cases c : b = a
      · exact c
      · exact absurd (if_neg c) z
/-- the end of a law by such a promise -/
theorem walkAt {l : PySem.W.OpenLaw} {n : Nat} {q : Program} {loose : List Str} {XP : (Str → Option Value) → Heap → Prop} {YP : World → Heap → Prop} {d : DefRec} {x : Str}
    (hn : l.most = some n) (hn2 : n ≤ sizeLine) (hdf : d.params.defaults = [])
    (F : ∀ (w : World) (mg : Str → Option Value) (fa : Addr) (h : Heap), YP w h → h.Ns mainGlobals mg → mg d.name = some (.ref fa) →
      ∃ (K : PySem.W.Frag) (fd : FuncData) (sp : Sp), K.In h ∧ (∀ (s : Shared) (u : Value), BindsTo s fd ⟨[u], []⟩ [(x, u)]) ∧
        (∀ (H : Hp) (a : Addr) (ns : List Int), ns.length ≤ n → Only H → SqL K H a (ns.map V.int) → sp [.ref a] H (fun v _ => v = .bl true) fun _ _ _ => False) ∧
        ∀ base : Heap, K.In base → base.Ns mainGlobals mg → FnAt l.prog w K mg base fa fd [x] sp) :
    PySem.W.WalkO q loose XP YP l.row.toRowW d [] (fun f vs => PySem.call f vs) := by
  refine Att.attach_call hn hdf fun w s₀ s₁ mg mb fa o pm cd doc a vs ns G Y ho hd hcd hmg hobj hints hlen hg => ?_
  obtain ⟨K, fd, sp, kx, hb, hsp, hF⟩ := F w mg fa _ Y G.T.g hmg
  exact lawAt kx G.T.g G.T.b G.T.builtins G.T.nolimit hg hobj hints (Nat.le_trans hlen hn2) hF hb fun H only sq => hsp H a ns hlen only sq
/-! ### repr of what is read as data -/
section
variable {X : Cx}
theorem cr_reprD (hg : X.A.guards = some []) (hu : X.A.units + 66 < cLine) : CallR X (.builtin "repr") (fun xs H Q => ∃ (a : Addr) (d : PyData), xs = [.ref a] ∧ Dp X.K H (.ref a) d ∧ d.showable = true ∧ d.hasDict = false ∧ d.depth ≤ 64 ∧ d.shown.length ≤ sizeLine ∧ Q (.str d.shown) H) := by
  intro pins s σ H xs us Q I r h
  obtain ⟨a, d, rfl, hd, sh, nd, dp, sz, q⟩ := h
  rw [Vals.ref1 r]
  obtain ⟨as, rd⟩ := Dp.reads I d _ _ hd rfl
  refine repr_of_reads' rd sh (fun z => by rw [nd] at z; cases z) hg (by omega) (fun b o e => e) (fun h' u tk kp => ?_) sz
  exact ⟨.str d.shown, H, I.kept (t' := tk) kp, ⟨_, rfl⟩, q⟩
theorem cr_reprN : CallR X (.builtin "repr") (fun xs H Q => xs = [.non] ∧ Q (.str "None") H) := by
  intro pins s σ H xs us Q I r h
  obtain ⟨rfl, q⟩ := h
  obtain ⟨u, rfl, ru⟩ := vals1 r
  cases ru
  exact PySem.P.repr_of_none ⟨.str _, H, I.tok _, ⟨_, rfl⟩, q⟩
end
end GA
/-! A def of the law that is called where nothing is being shown: repr of lists and tuples there. -/
namespace GA
open PySem PySem.Spec PyProof.Rows L2
structure FnG (P : Program) (w : World) (K : PySem.W.Frag) (mg : Str → Option Value) (base : Heap) (k : Nat) (f : Addr) (fd : FuncData) (ps : List Str) (sp : Sp) : Prop where
  len : ∀ vs H Q E, sp vs H Q E → vs.length = ps.length
  run : ∀ (A : Around) (outer : List Env) (s : Shared) (H : Hp) (args : Args) (us : List Value) (vs : List V) (Q : VK) (E : XK), Room k A → A.guards = some [] → Env0 P w K mg base A outer s H → BindsTo s fd args (ps.zip us) → Vals vs us → sp vs H Q E →
    codeAny (model P w) A (.call (.ref f) args) (CR CX0 outer P w H s Q E) s
section
variable {P : Program} {w : World} {K : PySem.W.Frag} {mg : Str → Option Value} {base : Heap} {x qual : Str} {params : Arguments} {body : List Stmt} {scope : Scope} {dvs : List V} {kws : List (Str × V)} {f : Addr} {fd : FuncData}
theorem okG {N ps : List Str} {k : Nat} {sp : Sp} (F : FunD K x qual params body scope dvs kws f fd) (S : FnScope N ps scope) (len : ∀ vs H Q E, sp vs H Q E → vs.length = ps.length)
    (bd : ∀ (cdv : Value) (A : Around) (outer : List Env) (s : Shared) (H : Hp) (vs : List V) (Q : VK) (E : XK), Room k (A.deeper (envOfC qual scope s.heap.objs.size f cdv)) → (A.deeper (envOfC qual scope s.heap.objs.size f cdv)).guards = some [] → sp vs H Q E →
      ∃ t, PSs (cxOf CX0 P w K mg base N qual scope f cdv A outer s H E) body t ∧ t { nx := fun _ H' => Q .non H', rt := Q } (start N vs) H) : FnG P w K mg base (k + 1) f fd ps sp := by
  obtain ⟨oc, od, dV, kV, doc, pm, an, cdv, ct, osl, rfl, lk, hcd, _, _⟩ := F.ex
  refine ⟨len, fun A outer s H args us vs Q E hR hG e0 hb r hsp => ?_⟩
  have vl := len _ _ _ _ hsp
  have kx : K.In s.heap := e0.mod.kin.keeps fun b o e => (e0.bs b o e).1
  have nl : s.heap.NoLimit := e0.mod.nolimit.keeps fun b o e => (e0.bs b o e).1
  have kinds : ∀ y ∈ ps.zip us, scope.names.lookup y.1 = some .local ∨ (scope.names.lookup y.1 = some .cell ∧ ((cellsFrom (s.heap.objs.size + 1) scope.names []).lookup y.1).isSome = true) := by
    rintro ⟨y1, y2⟩ hy
    rcases S.par y1 (List.of_mem_zip hy).1 with q | q
    · left; exact q
    · right; exact ⟨q, PySem.W.cellsFrom_some _ _ _ (.inl q)⟩
  refine codeAny_call_function hR.depth (kx _ _ lk) rfl S.co S.gen rfl (PySem.W.codeRec_of kx hcd) (hb _ _ _ _ ?_)
  refine wpAny_newFunctionEnv_cells S.kind kinds fun env ee s1 ic => ?_
  subst ee
  refine ⟨nl.keeps ic.toInCall.keep, codeAny_func ?_⟩
  obtain ⟨t, pt, rd⟩ := bd cdv A outer s H vs Q E (hR.deeper _) hG hsp
  have iv : L2.Inv (cxOf CX0 P w K mg base N qual scope f cdv A outer s H E) [] (start N vs) H s1 := inv_start S hR.hd e0 vl r ic
  refine wpAny_mono (pt.run [] s1 (start N vs) H _ iv rd) (fun fl s2 q => ?_) fun e s2 q => q
  have out : ∀ {σ2 : L2.St} {H2 : Hp} {a : V} {u : Value}, L2.Inv (cxOf CX0 P w K mg base N qual scope f cdv A outer s H E) [] σ2 H2 s2 → RelV a u → Q a H2 → CE outer P w H s Q u s2 := by
    intro σ2 H2 a u J ra qa
    exact ⟨a, H2, J.os, J.bare, J.base, J.hok, ra, qa⟩
  cases fl with
  | ret u =>
    obtain ⟨a, σ2, H2, J, ra, qa⟩ := q
    exact out J ra qa
  | next =>
    obtain ⟨σ2, H2, J, qa⟩ := q
    exact out (a := V.non) (u := Value.none) J rfl qa
  | brk =>
    obtain ⟨_, _, _, z⟩ := q
    exact z.elim
  | cont =>
    obtain ⟨_, _, _, z⟩ := q
    exact z.elim
end
section
variable {X : Cx} {k : Nat} {f : Addr} {fd : FuncData} {ps : List Str} {sp : Sp} {dvs : List V} {ds : List Value} {E : XK} {x : Str} {p pos : Pos} {e : Expr} {es : List Expr} {t : TA}
theorem run_fnG {pins : List (Addr × Obj)} {σ : L2.St} {H : Hp} {s : Shared} {Q : VK} {us : List Value} {vs : List V} (F : FnG X.prog X.w X.K X.mg X.base k f fd ps sp) (hr : Room k X.A) (hG : X.A.guards = some []) (hb : Binds X.K fd ps ds) (hd : Vals dvs ds) (hx : Passes CX0 X E)
    (I : Inv X pins σ H s) (r : Vals vs us) (h : sp (vs ++ dvs) H Q E) : wpAny (model X.prog X.w) X.A (call (.ref f) us) (EP X pins σ Q) X.xe s := by
  have r2 : Vals (vs ++ dvs) (us ++ ds) := r.append hd
  have hl : (us ++ ds).length = ps.length := by rw [← r2.length]; exact F.len _ _ _ _ h
  refine wpAny_call (codeAny_mono (F.run X.A X.stack s H ⟨us, []⟩ (us ++ ds) (vs ++ dvs) Q E hr hG I.env0 (hb s us I.kIn hl) r2 h) fun r s' hq => ?_)
  cases r with
  | error e => exact hx pins σ H s e s' I hq
  | ok fl =>
    cases fl with
    | ret u => exact I.after hq
    | next => exact False.elim hq
    | brk => exact False.elim hq
    | cont => exact False.elim hq
theorem pe_callG (F : FnG X.prog X.w X.K X.mg X.base k f fd ps sp) (hr : Room k X.A) (hG : X.A.guards = some []) (hg : Gl X x) (hm : X.mg x = some (.ref f)) (hk : PySem.W.keepIn X.K (.ref f) = true) (hb : Binds X.K fd ps ds) (hd : Vals dvs ds) (hx : Passes CX0 X E)
    (ha : PA X (e :: es) t) (hdb : (x == ("__debug__" : Str)) = false := by decide) (he : starEach (e :: es) X.env = (false, eval e X.env) :: starEach es X.env := by rfl) (hpl : (backTo pos (starEach es X.env)).any (·.1) = false := by rfl) :
    PE X (.Call (.Name x p) (e :: es) [] pos) (tCall sp dvs E t) := by
  refine ⟨fun pins s σ H Q I h => ?_⟩
  refine wpAny_Call_Name_kw (ld_glob I hg hm ?_ hdb)
  refine PySem.W.callWith_K (h₀ := X.base) I.ok.mod.kin hk (thn (ha.run pos pins s σ H _ I h) fun us s1 ⟨vs, H1, I1, r, q⟩ => ⟨I1.kIn, ?_⟩) he hpl
  exact run_fnG F hr hG hb hd hx I1 r q
end
end GA
/-! tuple * 1, tuple * more -/
namespace TM
open PySem PySem.Spec PyProof.Rows L2
theorem tuple_mul1 (l : Addr) (items : Array Value) (n : Nat) (dd : Option Addr) (sl : Array (Option Value)) (u : Tok) :
    Meets (Builtin.«tuple.__mul__» ⟨[.ref l, .int 1 u], []⟩) (fun _ R s => s.heap.get? l = some { cls := .type "tuple", dict := dd, data := .seq items n, slots := sl } ∧ R (.ok (.ret (Value.ref l))) s) :=
  .of_wp fun prog w A R s h => by
    obtain ⟨hp, g, d, tk, os⟩ := s
    obtain ⟨hl, h⟩ := h
    have f1 := AutoSeq1.idx_int
    wp_walk using wpAny_loadPart' hl
    exact ⟨_, rfl, h⟩
section
variable {X : Cx}
def rRep (K : PySem.W.Frag) : R2 := fun x y H Q => ∃ l k xs, x = .ref l ∧ y = .int k ∧ SqT K H l xs ∧ xs ≠ [] ∧ 1 ≤ k ∧ k ≤ 1000 ∧ xs.length ≤ 1000 ∧ (k = 1 → Q (.ref l) H) ∧ (2 ≤ k → ∀ p, H p = none → Q (.ref p) (upd H p (.tup (List.replicate k.toNat xs).flatten)))
theorem op_rep : OpR X (binaryOp .Mult) (rRep X.K) := by
  intro pins s σ H x y v u Q I rx ry h
  obtain ⟨l, k, xs, rfl, rfl, hT, hne, h1, h2, hz, q1, q2⟩ := h
  by_cases e : k = 1
  · subst e
    cases rx
    obtain ⟨t, rfl⟩ := ry
    obtain ⟨its, r, ⟨⟨cls, dd, data, sl⟩, ho, hc, n, hd⟩, hs⟩ := I.tuple hT
    simp only at hc hd
    subst hc hd
    refine wpAny_binaryOp_repeat_ref (T := "tuple") (U := "int") (by decide) ⟨_, ho, rfl⟩ (fun s' => typeIs_int s' 1 t) noFill_tuple_mul F.fills_int_mul F.slot_int_rmul repeat_tuple F.slot_int_index.lookup
      (call_meets F.slot_int_rmul (typeIs_int s 1 t) F.entry_int_rmul (F.args_int_rmul_2 _ _) (int_rmul_tuple 1 t l its.toArray n dd sl)
        ⟨ho, rfl, ⟨_, ho, rfl⟩, call_meets F.slot_tuple_mul ⟨_, ho, rfl⟩ F.entry_tuple_mul (F.args_tuple_mul_2 _ _) (tuple_mul1 l its.toArray n dd sl t) ⟨ho, ?_⟩⟩)
    exact ⟨.ref l, H, I, rfl, q1 rfl⟩
  · exact op_repT pins s σ H _ _ v u Q I rx ry ⟨l, k, xs, rfl, rfl, hT, hne, by omega, h2, hz, q2 (by omega)⟩
end
end TM
/-! zip(text, tuple) -/
namespace ZM
open PySem PySem.Spec PyProof.Rows L2
/-- the signs of a text and the items of a tuple, side by side, in new pairs -/
def ItXT (K : PySem.W.Frag) (x : Str) (b : Addr) : It :=
  ⟨fun i H => i < x.cps.size ∧ ∃ (ys : List V) (y : V), SqT K H b ys ∧ ys[i]? = some y,
    fun i H v H' => ∃ (T : Addr) (c : Nat) (y : V), v = .ref T ∧ H T = none ∧ H' = upd H T (.tup [.str ⟨#[c]⟩, y]) ∧ x.cps[i]? = some c ∧ ∀ ys, SqT K H b ys → ys[i]? = some y,
    fun i H => ∃ ys : List V, SqT K H b ys ∧ i = min x.cps.size ys.length⟩
theorem turn_zipXT {P : Program} {w : World} {K : PySem.W.Frag} {elts : List Expr} {kk : Nat} {tpos : Pos} {x : Str} {t : Tok} {z TI TO i1 i2 b : Addr} (S : ZipSep2 z TI TO i1 i2 [i1] [i2, b]) (nb : b ≠ i2) (nz : b ≠ z) :
    Turn P w K (.Tuple elts kk tpos) (ItXT K x b) [z, TI, TO, i1, i2] z (fun i h => IsZip h z TI TO .none ∧ IsTupOf2 h TI (.ref i1) (.ref i2) ∧ (∃ a b, IsTupOf2 h TO a b) ∧ h.IsStrIter i1 (strIterType x) x t i ∧ h.IsTupleIter i2 b i) where
  mem := by simp
  obj := fun i h st c hc => by
    obtain ⟨hz, hTI, ⟨a, b, hTO⟩, ⟨o1, e1, _, d1⟩, ⟨o2, e2, _, d2⟩⟩ := st
    have e' : c = z ∨ c = TI ∨ c = TO ∨ c = i1 ∨ c = i2 := by simpa using hc
    rcases e' with q | q | q | q | q
    · rw [q]; exact ⟨_, hz, fun v q => nomatch q⟩
    · rw [q]; exact ⟨_, hTI, fun v q => nomatch q⟩
    · rw [q]; exact ⟨_, hTO, fun v q => nomatch q⟩
    · rw [q]; exact ⟨o1, e1, fun v q => by rw [d1] at q; cases q⟩
    · rw [q]; exact ⟨o2, e2, fun v q => by rw [d2] at q; cases q⟩
  keep := fun i h h' st k => by
    obtain ⟨hz, hTI, ⟨a, b, hTO⟩, ⟨o1, e1, r1⟩, h2⟩ := st
    exact ⟨k z (by simp) _ hz, k TI (by simp) _ hTI, ⟨a, b, k TO (by simp) _ hTO⟩, ⟨o1, k i1 (by simp) _ e1, r1⟩, h2.at fun o q => k i2 (by simp) o q⟩
  item := by
    intro X hP hw hK hc i pins s σ H E I hf st hg
    subst hP hw hK
    obtain ⟨hz, hTI, ⟨a0, b0, hTO⟩, h1, h2⟩ := st
    obtain ⟨hg1, ys, y, hqy, hy⟩ := hg
    obtain ⟨its2, rv2, p2, _⟩ := I.tuple hqy
    obtain ⟨u2, hu2, ru2⟩ := rv2.get hy
    have hzl : z < s.heap.objs.size := Heap.lt_size hz
    have hl2 : i < its2.toArray.size := by
      rw [List.size_toArray]
      exact (List.getElem?_eq_some_iff.mp hu2).1
    refine wpAny_pyNext_zipD2_item S (Draws.text (A := X.A.in1) (I.ok.hd hc) i1 x t) (Draws.tuple (A := X.A.in1) (I.ok.hd hc) i2 b nb its2.toArray) hz hTI hTO h1 ⟨h2, p2⟩ hg1 hl2 fun v1 v2 h' tk q1 q2 z' TO' h1' h2' hT hsz hk => ?_
    obtain ⟨c, tc, hc1, rfl⟩ := q1
    have ev : v2 = u2 := by
      have e : its2.toArray[i]? = some u2 := by simpa using hu2
      rw [e] at q2
      exact (Option.some.inj q2).symm
    subst ev
    refine ⟨_, rfl, wpAny_letOwnedTupleGo_zip (s := { s with heap := h', toks := tk }) z' fun h'' z'' sb => ?_⟩
    have hT2 : h''.get? s.heap.objs.size = some { cls := .type "tuple", data := .seq #[.str ⟨#[c]⟩ tc, v2] } := (sb.2 _ (Nat.ne_of_gt hzl)).trans hT
    have new : ObjOk X.prog X.w (upd H s.heap.objs.size (.tup [.str ⟨#[c]⟩, y])) h'' s.heap.objs.size (.tup [.str ⟨#[c]⟩, y]) :=
      ⟨by show 2 ≤ sizeLine; decide, [.str ⟨#[c]⟩ tc, v2], .cons ⟨_, rfl⟩ (.cons ru2 .nil), ⟨_, hT2, rfl, _, rfl⟩⟩
    have I1 : Inv X pins σ (upd H s.heap.objs.size (.tup [.str ⟨#[c]⟩, y])) { s with heap := h'', toks := tk } :=
      I.turnedNew (t' := tk) (ch := [z, TI, TO, i1, i2]) (fun c o hb q => (sb.2 c (fun q' => hb (by simp [q']))).trans (hk c o (fun q' => hb (by simp [q'])) (fun q' => hb (by simp [q'])) (fun q' => hb (by simp [q'])) (fun q' => hb (by simp [q'])) q)) hf (Nat.le_refl _) new
    have st' : ∀ {a : Addr} {ty : String} {v : Str} {tv : Tok} {n : Nat}, a ≠ z → h'.IsStrIter a ty v tv n → h''.IsStrIter a ty v tv n := fun n ⟨o, e, r⟩ => ⟨o, (sb.2 _ n).trans e, r⟩
    refine ⟨.ref s.heap.objs.size, _, I1, rfl, ⟨_, c, y, rfl, I.hok.fresh (Nat.le_refl _), rfl, hc1, fun l hl => by rw [I.tuple_inj hl hqy]; exact hy⟩, ⟨z'', ?_, ⟨.str ⟨#[c]⟩ tc, v2, ?_⟩, st' S.zi1.symm h1', h2'.1.at fun o q => (sb.2 _ S.zi2.symm).trans q⟩, fun b hb => ?_⟩
    · exact (sb.2 _ S.TIz).trans (hk _ _ S.TIz S.TITO S.TIi1 S.TIi2 hTI)
    · exact (sb.2 _ S.TOz).trans TO'
    · have hlt : b < s.heap.objs.size := by
        have e' : b = z ∨ b = TI ∨ b = TO ∨ b = i1 ∨ b = i2 := by simpa using hb
        rcases e' with q | q | q | q | q
        · rw [q]; exact hzl
        · rw [q]; exact Heap.lt_size hTI
        · rw [q]; exact Heap.lt_size hTO
        · rw [q]; obtain ⟨_, e1, _⟩ := h1; exact Heap.lt_size e1
        · rw [q]; obtain ⟨_, e2, _⟩ := h2; exact Heap.lt_size e2
      rw [upd_ne (Nat.ne_of_lt hlt)]
      exact (hf b hb).1
  done := by
    intro X hP hw hK hc i pins s σ H E I hf st hg
    subst hP hw hK
    obtain ⟨hz, hTI, ⟨a0, b0, hTO⟩, h1, h2⟩ := st
    obtain ⟨ys, hqy, hg'⟩ := hg
    obtain ⟨its2, rv2, p2, _⟩ := I.tuple hqy
    have l2 : its2.toArray.size = ys.length := by rw [List.size_toArray]; exact rv2.length.symm
    exact wpAny_pyNext_zipD2_end S (Draws.text (A := X.A.in1) (I.ok.hd hc) i1 x t) (Draws.tuple (A := X.A.in1) (I.ok.hd hc) i2 b nb its2.toArray) hz hTI hTO h1 ⟨h2, p2⟩ (by omega) (by omega) (by omega) fun h' tk hk => ⟨rfl, I.turnedL (t' := tk) (ch := [z, TI, TO, i1, i2]) (fun c o hb q =>
      hk c o (fun q' => hb (by simp [q'])) (fun q' => hb (by simp [q'])) (fun q' => hb (by simp [q'])) (fun q' => hb (by simp [q'])) q) hf⟩
  self := fun A i s Q E st h => wpAny_pyIter_zip st.1 h
theorem sep_newT {n b : Nat} (hb : b < n) : ZipSep2 (n + 4) (n + 2) (n + 3) n (n + 1) [n] [n + 1, b] := by
  have a0 : ¬ n = b := by omega
  have a1 : ¬ n + 1 = b := by omega
  have a2 : ¬ n + 2 = b := by omega
  have a3 : ¬ n + 3 = b := by omega
  have a4 : ¬ n + 4 = b := by omega
  constructor <;> simp [a0, a1, a2, a3, a4, Ne.symm a0, eq_comm (a := b)] <;> omega
def iZipXT (K : PySem.W.Frag) (ta : TA) : TI := fun σ H R => ta σ H fun vs H1 => ∃ (x : Str) (b : Addr) (ys : List V), vs = [.str x, .ref b] ∧ SqT K H1 b ys ∧ R (ItXT K x b) H1
theorem pi_zipXT {X : Cx} {e e2 : Expr} {ta : TA} {p pos tpos : Pos} {elts : List Expr} {kk : Nat} (hg : Gl X "zip") (hm : X.mg "zip" = none) (ha : PA X [e, e2] ta)
    (hs : starEach [e, e2] X.env = (false, eval e X.env) :: starEach [e2] X.env := by rfl) (hpl : (backTo pos (starEach [e2] X.env)).any (·.1) = false := by rfl) :
    PI X (.Tuple elts kk tpos) (.Call (.Name "zip" p) [e, e2] [] pos) (iZipXT X.K ta) := by
  refine ⟨fun pins s σ H R I h => ?_⟩
  refine Call_ (ld_blt I hg hm PyProof.Rows.boot_zip (PyProof.Rows.callWith_type1 (thn (ha.run pos pins s σ H _ I h) fun us s1 ⟨vs, H1, I1, r1, q1⟩ => ?_) hs hpl))
  obtain ⟨x, b, ys, ex, hqy, q⟩ := q1
  subst ex
  cases r1 with
  | cons r rr =>
    cases rr with
    | cons r' rr =>
      cases rr
      obtain ⟨t, rfl⟩ := r
      cases r'
      obtain ⟨its2, rv2, p2, _⟩ := I1.tuple hqy
      have bl : b < s1.heap.objs.size := by
        obtain ⟨o, ho, _⟩ := id p2
        exact Heap.lt_size ho
      refine zip_begins2 (begins_text x t) (begins_tuple b its2.toArray) trivial p2 fun h' hz hTI hTO h1 h2 hsz hk => wpAny_pyIter_zip hz ?_
      have I2 : Inv X pins σ H1 { s1 with heap := h' } := I1.kept (t' := s1.toks) hk
      refine ⟨s1.heap.objs.size + 4, [s1.heap.objs.size + 4, s1.heap.objs.size + 2, s1.heap.objs.size + 3, s1.heap.objs.size, s1.heap.objs.size + 1], _, _, H1, rfl, I2, turn_zipXT (sep_newT bl) (Nat.ne_of_lt (Nat.lt_succ_of_lt bl)) (Nat.ne_of_lt (Nat.lt_of_lt_of_le bl (Nat.le_add_right _ _))), ⟨hz, hTI, ⟨_, _, hTO⟩, ⟨_, h1, rfl, rfl⟩, ⟨_, h2, rfl, rfl⟩⟩, fun c hcm => ?_, q⟩
      have e' : c = s1.heap.objs.size + 4 ∨ c = s1.heap.objs.size + 2 ∨ c = s1.heap.objs.size + 3 ∨ c = s1.heap.objs.size ∨ c = s1.heap.objs.size + 1 := by simpa using hcm
      have hle : s1.heap.objs.size ≤ c := by
        rcases e' with z | z | z | z | z
        · rw [z]; exact Nat.le_add_right _ _
        · rw [z]; exact Nat.le_add_right _ _
        · rw [z]; exact Nat.le_add_right _ _
        · rw [z]; exact Nat.le_refl _
        · rw [z]; exact Nat.le_add_right _ _
      exact I1.fpOk hle (I1.hok.fresh hle)
theorem walk_zipXT {K : PySem.W.Frag} {x : Str} {b : Addr} {ys : List V} {n : Nat} (hn : n = min x.cps.size ys.length) : Walk (ItXT K x b) n (fun H => SqT K H b ys) (fun i H v H' => ∃ (T : Addr) (c : Nat) (y : V), v = .ref T ∧ H T = none ∧ H' = upd H T (.tup [.str ⟨#[c]⟩, y]) ∧ x.cps[i]? = some c ∧ ys[i]? = some y) := by
  subst hn
  refine ⟨fun i _ hi q => ⟨by omega, ys, ys[i]'(by omega), q, List.getElem?_eq_getElem _⟩, fun _ q => ⟨ys, q, rfl⟩, fun i H v H' _ q y => ?_⟩
  obtain ⟨T, c, z, h1, h2, h3, h4, h5⟩ := y
  exact ⟨T, c, z, h1, h2, h3, h4, h5 ys q⟩
end ZM
/-! zip(text, tuple, tuple); (int, text) < (int, text) -/
namespace ZT
open PySem PySem.Spec PyProof.Rows L2
/-- the signs of a text and the items of two tuples, side by side, in new tuples -/
def It3 (K : PySem.W.Frag) (x : Str) (b d : Addr) : It :=
  ⟨fun i H => i < x.cps.size ∧ (∃ (ys : List V) (y : V), SqT K H b ys ∧ ys[i]? = some y) ∧ ∃ (ys : List V) (y : V), SqT K H d ys ∧ ys[i]? = some y,
    fun i H v H' => ∃ (T : Addr) (c : Nat) (y y' : V), v = .ref T ∧ H T = none ∧ H' = upd H T (.tup [.str ⟨#[c]⟩, y, y']) ∧ x.cps[i]? = some c ∧ (∀ ys, SqT K H b ys → ys[i]? = some y) ∧ ∀ ys, SqT K H d ys → ys[i]? = some y',
    fun i H => (∃ ys : List V, SqT K H b ys ∧ i ≤ ys.length) ∧ (∃ ys : List V, SqT K H d ys ∧ i ≤ ys.length) ∧ i = x.cps.size⟩
theorem turn3 {P : Program} {w : World} {K : PySem.W.Frag} {elts : List Expr} {kk : Nat} {tpos : Pos} {x : Str} {t : Tok} {z TI TO i1 i2 i3 b d : Addr} (S : ZipSep3 z TI TO i1 i2 i3 [i1] [i2, b] [i3, d]) (nb : b ≠ i2) (nd : d ≠ i3) :
    Turn P w K (.Tuple elts kk tpos) (It3 K x b d) [z, TI, TO, i1, i2, i3] z (fun i h => IsZip h z TI TO .none ∧ IsTupOf3 h TI (.ref i1) (.ref i2) (.ref i3) ∧ (∃ a b c, IsTupOf3 h TO a b c) ∧ h.IsStrIter i1 (strIterType x) x t i ∧ h.IsTupleIter i2 b i ∧ h.IsTupleIter i3 d i) where
  mem := by simp
  obj := fun i h st c hc => by
    obtain ⟨hz, hTI, ⟨a, b, c', hTO⟩, ⟨o1, e1, _, d1⟩, ⟨o2, e2, _, d2⟩, ⟨o3, e3, _, d3⟩⟩ := st
    have e' : c = z ∨ c = TI ∨ c = TO ∨ c = i1 ∨ c = i2 ∨ c = i3 := by simpa using hc
    rcases e' with q | q | q | q | q | q
    · rw [q]; exact ⟨_, hz, fun v q => nomatch q⟩
    · rw [q]; exact ⟨_, hTI, fun v q => nomatch q⟩
    · rw [q]; exact ⟨_, hTO, fun v q => nomatch q⟩
    · rw [q]; exact ⟨o1, e1, fun v q => by rw [d1] at q; cases q⟩
    · rw [q]; exact ⟨o2, e2, fun v q => by rw [d2] at q; cases q⟩
    · rw [q]; exact ⟨o3, e3, fun v q => by rw [d3] at q; cases q⟩
  keep := fun i h h' st k => by
    obtain ⟨hz, hTI, ⟨a, b, c', hTO⟩, ⟨o1, e1, r1⟩, h2, h3⟩ := st
    exact ⟨k z (by simp) _ hz, k TI (by simp) _ hTI, ⟨a, b, c', k TO (by simp) _ hTO⟩, ⟨o1, k i1 (by simp) _ e1, r1⟩, h2.at (fun o q => k i2 (by simp) o q), h3.at fun o q => k i3 (by simp) o q⟩
  item := by
    intro X hP hw hK hc i pins s σ H E I hf st hg
    subst hP hw hK
    obtain ⟨hz, hTI, ⟨a0, b0, c0, hTO⟩, h1, h2, h3⟩ := st
    obtain ⟨hg1, ⟨ys, y, hqy, hy⟩, ys', y', hqy', hy'⟩ := hg
    obtain ⟨its2, rv2, p2, _⟩ := I.tuple hqy
    obtain ⟨u2, hu2, ru2⟩ := rv2.get hy
    obtain ⟨its3, rv3, p3, _⟩ := I.tuple hqy'
    obtain ⟨u3, hu3, ru3⟩ := rv3.get hy'
    have hzl : z < s.heap.objs.size := Heap.lt_size hz
    have hl2 : i < its2.toArray.size := by
      rw [List.size_toArray]
      exact (List.getElem?_eq_some_iff.mp hu2).1
    have hl3 : i < its3.toArray.size := by
      rw [List.size_toArray]
      exact (List.getElem?_eq_some_iff.mp hu3).1
    refine wpAny_pyNext_zipD3_item S (Draws.text (A := X.A.in1) (I.ok.hd hc) i1 x t) (Draws.tuple (A := X.A.in1) (I.ok.hd hc) i2 b nb its2.toArray) (Draws.tuple (A := X.A.in1) (I.ok.hd hc) i3 d nd its3.toArray) hz hTI hTO h1 ⟨h2, p2⟩ ⟨h3, p3⟩ hg1 hl2 hl3 fun v1 v2 v3 h' tk q1 q2 q3 z' TO' h1' h2' h3' hT hsz hk => ?_
    obtain ⟨c, tc, hc1, rfl⟩ := q1
    have ev : v2 = u2 := by
      have e : its2.toArray[i]? = some u2 := by simpa using hu2
      rw [e] at q2
      exact (Option.some.inj q2).symm
    subst ev
    have ev : v3 = u3 := by
      have e : its3.toArray[i]? = some u3 := by simpa using hu3
      rw [e] at q3
      exact (Option.some.inj q3).symm
    subst ev
    refine ⟨_, rfl, wpAny_letOwnedTupleGo_zip (s := { s with heap := h', toks := tk }) z' fun h'' z'' sb => ?_⟩
    have hT2 : h''.get? s.heap.objs.size = some { cls := .type "tuple", data := .seq #[.str ⟨#[c]⟩ tc, v2, v3] } := (sb.2 _ (Nat.ne_of_gt hzl)).trans hT
    have new : ObjOk X.prog X.w (upd H s.heap.objs.size (.tup [.str ⟨#[c]⟩, y, y'])) h'' s.heap.objs.size (.tup [.str ⟨#[c]⟩, y, y']) :=
      ⟨by show 3 ≤ sizeLine; decide, [.str ⟨#[c]⟩ tc, v2, v3], .cons ⟨_, rfl⟩ (.cons ru2 (.cons ru3 .nil)), ⟨_, hT2, rfl, _, rfl⟩⟩
    have I1 : Inv X pins σ (upd H s.heap.objs.size (.tup [.str ⟨#[c]⟩, y, y'])) { s with heap := h'', toks := tk } :=
      I.turnedNew (t' := tk) (ch := [z, TI, TO, i1, i2, i3]) (fun c o hb q => (sb.2 c (fun q' => hb (by simp [q']))).trans (hk c o (fun q' => hb (by simp [q'])) (fun q' => hb (by simp [q'])) (fun q' => hb (by simp [q'])) (fun q' => hb (by simp [q'])) (fun q' => hb (by simp [q'])) q)) hf (Nat.le_refl _) new
    have st' : ∀ {a : Addr} {ty : String} {v : Str} {tv : Tok} {n : Nat}, a ≠ z → h'.IsStrIter a ty v tv n → h''.IsStrIter a ty v tv n := fun n ⟨o, e, r⟩ => ⟨o, (sb.2 _ n).trans e, r⟩
    refine ⟨.ref s.heap.objs.size, _, I1, rfl, ⟨_, c, y, y', rfl, I.hok.fresh (Nat.le_refl _), rfl, hc1, (fun l hl => by rw [I.tuple_inj hl hqy]; exact hy), fun l hl => by rw [I.tuple_inj hl hqy']; exact hy'⟩, ⟨z'', ?_, ⟨.str ⟨#[c]⟩ tc, v2, v3, ?_⟩, st' S.zi1.symm h1', h2'.1.at (fun o q => (sb.2 _ S.zi2.symm).trans q), h3'.1.at fun o q => (sb.2 _ S.zi3.symm).trans q⟩, fun b hb => ?_⟩
    · exact (sb.2 _ S.TIz).trans (hk _ _ S.TIz S.TITO S.TIi1 S.TIi2 S.TIi3 hTI)
    · exact (sb.2 _ S.TOz).trans TO'
    · have hlt : b < s.heap.objs.size := by
        have e' : b = z ∨ b = TI ∨ b = TO ∨ b = i1 ∨ b = i2 ∨ b = i3 := by simpa using hb
        rcases e' with q | q | q | q | q | q
        · rw [q]; exact hzl
        · rw [q]; exact Heap.lt_size hTI
        · rw [q]; exact Heap.lt_size hTO
        · rw [q]; obtain ⟨_, e1, _⟩ := h1; exact Heap.lt_size e1
        · rw [q]; obtain ⟨_, e2, _⟩ := h2; exact Heap.lt_size e2
        · rw [q]; obtain ⟨_, e2, _⟩ := h3; exact Heap.lt_size e2
      rw [upd_ne (Nat.ne_of_lt hlt)]
      exact (hf b hb).1
  done := by
    intro X hP hw hK hc i pins s σ H E I hf st hg
    subst hP hw hK
    obtain ⟨hz, hTI, ⟨a0, b0, c0, hTO⟩, h1, h2, h3⟩ := st
    obtain ⟨⟨ys, hqy, hy⟩, ⟨ys', hqy', hy'⟩, he⟩ := hg
    obtain ⟨its2, rv2, p2, _⟩ := I.tuple hqy
    have l2 : its2.toArray.size = ys.length := by rw [List.size_toArray]; exact rv2.length.symm
    obtain ⟨its3, rv3, p3, _⟩ := I.tuple hqy'
    have l3 : its3.toArray.size = ys'.length := by rw [List.size_toArray]; exact rv3.length.symm
    exact wpAny_pyNext_zipD3_end S (Draws.text (A := X.A.in1) (I.ok.hd hc) i1 x t) (Draws.tuple (A := X.A.in1) (I.ok.hd hc) i2 b nb its2.toArray) (Draws.tuple (A := X.A.in1) (I.ok.hd hc) i3 d nd its3.toArray) hz hTI hTO h1 ⟨h2, p2⟩ ⟨h3, p3⟩ (by omega) (by omega) (by omega) (by omega) fun h' tk hk => ⟨rfl, I.turnedL (t' := tk) (ch := [z, TI, TO, i1, i2, i3]) (fun c o hb q =>
      hk c o (fun q' => hb (by simp [q'])) (fun q' => hb (by simp [q'])) (fun q' => hb (by simp [q'])) (fun q' => hb (by simp [q'])) (fun q' => hb (by simp [q'])) q) hf⟩
  self := fun A i s Q E st h => wpAny_pyIter_zip st.1 h
theorem sep3 {n b d : Nat} (hb : b < n) (hd : d < n) : ZipSep3 (n + 5) (n + 3) (n + 4) n (n + 1) (n + 2) [n] [n + 1, b] [n + 2, d] := by
  have a0 : ¬ n = b := by omega
  have a1 : ¬ n + 1 = b := by omega
  have a2 : ¬ n + 2 = b := by omega
  have a3 : ¬ n + 3 = b := by omega
  have a4 : ¬ n + 4 = b := by omega
  have a5 : ¬ n + 5 = b := by omega
  have c0 : ¬ n = d := by omega
  have c1 : ¬ n + 1 = d := by omega
  have c2 : ¬ n + 2 = d := by omega
  have c3 : ¬ n + 3 = d := by omega
  have c4 : ¬ n + 4 = d := by omega
  have c5 : ¬ n + 5 = d := by omega
  constructor <;> simp [a0, a1, a2, a3, a4, a5, c0, c1, c2, c3, c4, c5] <;> omega
def iZip3 (K : PySem.W.Frag) (ta : TA) : TI := fun σ H R => ta σ H fun vs H1 => ∃ (x : Str) (b d : Addr) (ys ys' : List V), vs = [.str x, .ref b, .ref d] ∧ SqT K H1 b ys ∧ SqT K H1 d ys' ∧ R (It3 K x b d) H1
theorem pi_zip3 {X : Cx} {e e2 e3 : Expr} {ta : TA} {p pos tpos : Pos} {elts : List Expr} {kk : Nat} (hg : Gl X "zip") (hm : X.mg "zip" = none) (ha : PA X [e, e2, e3] ta)
    (hs : starEach [e, e2, e3] X.env = (false, eval e X.env) :: starEach [e2, e3] X.env := by rfl) (hpl : (backTo pos (starEach [e2, e3] X.env)).any (·.1) = false := by rfl) :
    PI X (.Tuple elts kk tpos) (.Call (.Name "zip" p) [e, e2, e3] [] pos) (iZip3 X.K ta) := by
  refine ⟨fun pins s σ H R I h => ?_⟩
  refine Call_ (ld_blt I hg hm PyProof.Rows.boot_zip (PyProof.Rows.callWith_type1 (thn (ha.run pos pins s σ H _ I h) fun us s1 ⟨vs, H1, I1, r1, q1⟩ => ?_) hs hpl))
  obtain ⟨x, b, d, ys, ys', ex, hqy, hqd, q⟩ := q1
  subst ex
  cases r1 with
  | cons r rr =>
    cases rr with
    | cons r' rr =>
      cases rr with
      | cons r'' rr =>
        cases rr
        obtain ⟨t, rfl⟩ := r
        cases r'
        cases r''
        obtain ⟨its2, rv2, p2, _⟩ := I1.tuple hqy
        obtain ⟨its3, rv3, p3, _⟩ := I1.tuple hqd
        have bl : b < s1.heap.objs.size := by
          obtain ⟨o, ho, _⟩ := id p2
          exact Heap.lt_size ho
        have dl : d < s1.heap.objs.size := by
          obtain ⟨o, ho, _⟩ := id p3
          exact Heap.lt_size ho
        refine zip_begins3 (begins_text x t) (begins_tuple b its2.toArray) (begins_tuple d its3.toArray) trivial p2 p3 fun h' hz hTI hTO h1 h2 h3 hsz hk => wpAny_pyIter_zip hz ?_
        have I2 : Inv X pins σ H1 { s1 with heap := h' } := I1.kept (t' := s1.toks) hk
        refine ⟨s1.heap.objs.size + 5, [s1.heap.objs.size + 5, s1.heap.objs.size + 3, s1.heap.objs.size + 4, s1.heap.objs.size, s1.heap.objs.size + 1, s1.heap.objs.size + 2], _, _, H1, rfl, I2, turn3 (sep3 bl dl) (Nat.ne_of_lt (Nat.lt_of_lt_of_le bl (Nat.le_add_right _ _))) (Nat.ne_of_lt (Nat.lt_of_lt_of_le dl (Nat.le_add_right _ _))), ⟨hz, hTI, ⟨_, _, _, hTO⟩, ⟨_, h1, rfl, rfl⟩, ⟨_, h2, rfl, rfl⟩, ⟨_, h3, rfl, rfl⟩⟩, fun c hcm => ?_, q⟩
        have hle : s1.heap.objs.size ≤ c := by
          have e' : c = s1.heap.objs.size + 5 ∨ c = s1.heap.objs.size + 3 ∨ c = s1.heap.objs.size + 4 ∨ c = s1.heap.objs.size ∨ c = s1.heap.objs.size + 1 ∨ c = s1.heap.objs.size + 2 := by simpa using hcm
          have ee : ∀ n : Nat, c = s1.heap.objs.size + n → s1.heap.objs.size ≤ c := fun n h => by rw [h]; exact Nat.le_add_right _ _
          rcases e' with z | z | z | z | z | z
          · exact ee _ z
          · exact ee _ z
          · exact ee _ z
          · exact ee 0 z
          · exact ee _ z
          · exact ee _ z
        exact I1.fpOk hle (I1.hok.fresh hle)
theorem walk3 {K : PySem.W.Frag} {x : Str} {b d : Addr} {ys ys' : List V} (h1 : ys.length = x.cps.size) (h2 : ys'.length = x.cps.size) : Walk (It3 K x b d) x.cps.size (fun H => SqT K H b ys ∧ SqT K H d ys') (fun i H v H' => ∃ (T : Addr) (c : Nat) (y y' : V), v = .ref T ∧ H T = none ∧ H' = upd H T (.tup [.str ⟨#[c]⟩, y, y']) ∧ x.cps[i]? = some c ∧ ys[i]? = some y ∧ ys'[i]? = some y') := by
  refine ⟨fun i _ hi q => ⟨hi, ⟨ys, ys[i]'(by omega), q.1, List.getElem?_eq_getElem _⟩, ys', ys'[i]'(by omega), q.2, List.getElem?_eq_getElem _⟩, fun _ q => ⟨⟨ys, q.1, by omega⟩, ⟨ys', q.2, by omega⟩, rfl⟩, fun i H v H' _ q y => ?_⟩
  obtain ⟨T, c, z, z', h1, h2, h3, h4, h5, h6⟩ := y
  exact ⟨T, c, z, z', h1, h2, h3, h4, h5 ys q.1, h6 ys' q.2⟩
/-- (n, x) < (m, y) -/
def rLtD (K : PySem.W.Frag) : R2 := fun x y H Q => ∃ (a b : Addr) (n m : Int) (u v : Str), x = .ref a ∧ y = .ref b ∧ SqT K H a [.int n, .str u] ∧ SqT K H b [.int m, .str v] ∧ Q (.bl (if n = m then decide (u.cps.toList < v.cps.toList) else decide (n < m))) H
theorem op_ltD {X : Cx} (hu : X.A.units + 64 < cLine) : OpR X (compareOp .Lt) (rLtD X.K) := by
  intro pins s σ H x y v u Q I rx ry h
  obtain ⟨a, b, n, m, p, q, rfl, rfl, ha, hb, k⟩ := h
  cases rx
  cases ry
  have d1 : Dp X.K H (.ref a) (PySem.W.Datum.toD ((n, p) : Int × Str)) := .tup ha (.cons (.int n) (.cons (.str p) .nil))
  have d2 : Dp X.K H (.ref b) (PySem.W.Datum.toD ((m, q) : Int × Str)) := .tup hb (.cons (.int m) (.cons (.str q) .nil))
  have dp : PySem.W.Datum.depth (Int × Str) ≤ 8 := by decide
  exact PySem.W.lt_datum (α := Int × Str) (Dp.reads I _ _ _ d1 rfl) (Dp.reads I _ _ _ d2 rfl) (by omega) ⟨.bl (if n = m then decide (p.cps.toList < q.cps.toList) else decide (n < m)), H, I, rfl, k⟩
end ZT
/-! zip(list, tuple) -/
namespace ZL
open PySem PySem.Spec PyProof.Rows L2
/-- the items of a list and of a tuple, side by side, in new pairs -/
def ItLT (K : PySem.W.Frag) (a b : Addr) : It :=
  ⟨fun i H => ∃ (xs ys : List V) (x y : V), SqL K H a xs ∧ SqT K H b ys ∧ xs[i]? = some x ∧ ys[i]? = some y,
    fun i H v H' => ∃ (T : Addr) (x y : V), v = .ref T ∧ H T = none ∧ H' = upd H T (.tup [x, y]) ∧ (∀ xs, SqL K H a xs → xs[i]? = some x) ∧ ∀ ys, SqT K H b ys → ys[i]? = some y,
    fun i H => ∃ xs ys : List V, SqL K H a xs ∧ SqT K H b ys ∧ i = min xs.length ys.length⟩
theorem turn_zipLT {P : Program} {w : World} {K : PySem.W.Frag} {elts : List Expr} {kk : Nat} {tpos : Pos} {z TI TO i1 i2 a b : Addr} (S : ZipSep2 z TI TO i1 i2 [i1, a] [i2, b]) (na : a ≠ i1) (nb : b ≠ i2) :
    Turn P w K (.Tuple elts kk tpos) (ItLT K a b) [z, TI, TO, i1, i2] z (fun i h => IsZip h z TI TO .none ∧ IsTupOf2 h TI (.ref i1) (.ref i2) ∧ (∃ a b, IsTupOf2 h TO a b) ∧ h.IsListIter i1 a i ∧ h.IsTupleIter i2 b i) where
  mem := by simp
  obj := fun i h st c hc => by
    obtain ⟨hz, hTI, ⟨a, b, hTO⟩, ⟨o1, e1, _, d1⟩, ⟨o2, e2, _, d2⟩⟩ := st
    have e' : c = z ∨ c = TI ∨ c = TO ∨ c = i1 ∨ c = i2 := by simpa using hc
    rcases e' with q | q | q | q | q
    · rw [q]; exact ⟨_, hz, fun v q => nomatch q⟩
    · rw [q]; exact ⟨_, hTI, fun v q => nomatch q⟩
    · rw [q]; exact ⟨_, hTO, fun v q => nomatch q⟩
    · rw [q]; exact ⟨o1, e1, fun v q => by rw [d1] at q; cases q⟩
    · rw [q]; exact ⟨o2, e2, fun v q => by rw [d2] at q; cases q⟩
  keep := fun i h h' st k => by
    obtain ⟨hz, hTI, ⟨a, b, hTO⟩, h1, h2⟩ := st
    exact ⟨k z (by simp) _ hz, k TI (by simp) _ hTI, ⟨a, b, k TO (by simp) _ hTO⟩, h1.at (fun o q => k i1 (by simp) o q), h2.at fun o q => k i2 (by simp) o q⟩
  item := by
    intro X hP hw hK hc i pins s σ H E I hf st hg
    subst hP hw hK
    obtain ⟨hz, hTI, ⟨a0, b0, hTO⟩, h1, h2⟩ := st
    obtain ⟨xs, ys, x, y, hqx, hqy, hx, hy⟩ := hg
    obtain ⟨its1, rv1, p1, _⟩ := I.list hqx
    obtain ⟨u1, hu1, ru1⟩ := rv1.get hx
    have hl1 : i < its1.toArray.size := by
      rw [List.size_toArray]
      exact (List.getElem?_eq_some_iff.mp hu1).1
    obtain ⟨its2, rv2, p2, _⟩ := I.tuple hqy
    obtain ⟨u2, hu2, ru2⟩ := rv2.get hy
    have hzl : z < s.heap.objs.size := Heap.lt_size hz
    have hl2 : i < its2.toArray.size := by
      rw [List.size_toArray]
      exact (List.getElem?_eq_some_iff.mp hu2).1
    refine wpAny_pyNext_zipD2_item S (Draws.list (A := X.A.in1) (I.ok.hd hc) i1 a na its1.toArray) (Draws.tuple (A := X.A.in1) (I.ok.hd hc) i2 b nb its2.toArray) hz hTI hTO ⟨h1, p1.isList⟩ ⟨h2, p2⟩ hl1 hl2 fun v1 v2 h' tk q1 q2 z' TO' h1' h2' hT hsz hk => ?_
    have ev1 : v1 = u1 := by
      have e : its1.toArray[i]? = some u1 := by simpa using hu1
      rw [e] at q1
      exact (Option.some.inj q1).symm
    subst ev1
    have ev : v2 = u2 := by
      have e : its2.toArray[i]? = some u2 := by simpa using hu2
      rw [e] at q2
      exact (Option.some.inj q2).symm
    subst ev
    refine ⟨_, rfl, wpAny_letOwnedTupleGo_zip (s := { s with heap := h', toks := tk }) z' fun h'' z'' sb => ?_⟩
    have hT2 : h''.get? s.heap.objs.size = some { cls := .type "tuple", data := .seq #[v1, v2] } := (sb.2 _ (Nat.ne_of_gt hzl)).trans hT
    have new : ObjOk X.prog X.w (upd H s.heap.objs.size (.tup [x, y])) h'' s.heap.objs.size (.tup [x, y]) :=
      ⟨by show 2 ≤ sizeLine; decide, [v1, v2], .cons ru1 (.cons ru2 .nil), ⟨_, hT2, rfl, _, rfl⟩⟩
    have I1 : Inv X pins σ (upd H s.heap.objs.size (.tup [x, y])) { s with heap := h'', toks := tk } :=
      I.turnedNew (t' := tk) (ch := [z, TI, TO, i1, i2]) (fun c o hb q => (sb.2 c (fun q' => hb (by simp [q']))).trans (hk c o (fun q' => hb (by simp [q'])) (fun q' => hb (by simp [q'])) (fun q' => hb (by simp [q'])) (fun q' => hb (by simp [q'])) q)) hf (Nat.le_refl _) new
    refine ⟨.ref s.heap.objs.size, _, I1, rfl, ⟨_, x, y, rfl, I.hok.fresh (Nat.le_refl _), rfl, (fun l hl => by rw [I.list_inj hl hqx]; exact hx), fun l hl => by rw [I.tuple_inj hl hqy]; exact hy⟩, ⟨z'', ?_, ⟨v1, v2, ?_⟩, h1'.1.at (fun o q => (sb.2 _ S.zi1.symm).trans q), h2'.1.at fun o q => (sb.2 _ S.zi2.symm).trans q⟩, fun b hb => ?_⟩
    · exact (sb.2 _ S.TIz).trans (hk _ _ S.TIz S.TITO S.TIi1 S.TIi2 hTI)
    · exact (sb.2 _ S.TOz).trans TO'
    · have hlt : b < s.heap.objs.size := by
        have e' : b = z ∨ b = TI ∨ b = TO ∨ b = i1 ∨ b = i2 := by simpa using hb
        rcases e' with q | q | q | q | q
        · rw [q]; exact hzl
        · rw [q]; exact Heap.lt_size hTI
        · rw [q]; exact Heap.lt_size hTO
        · rw [q]; obtain ⟨_, e1, _⟩ := h1; exact Heap.lt_size e1
        · rw [q]; obtain ⟨_, e2, _⟩ := h2; exact Heap.lt_size e2
      rw [upd_ne (Nat.ne_of_lt hlt)]
      exact (hf b hb).1
  done := by
    intro X hP hw hK hc i pins s σ H E I hf st hg
    subst hP hw hK
    obtain ⟨hz, hTI, ⟨a0, b0, hTO⟩, h1, h2⟩ := st
    obtain ⟨xs, ys, hqx, hqy, hg'⟩ := hg
    obtain ⟨its1, rv1, p1, _⟩ := I.list hqx
    have l1 : its1.toArray.size = xs.length := by rw [List.size_toArray]; exact rv1.length.symm
    obtain ⟨its2, rv2, p2, _⟩ := I.tuple hqy
    have l2 : its2.toArray.size = ys.length := by rw [List.size_toArray]; exact rv2.length.symm
    exact wpAny_pyNext_zipD2_end S (Draws.list (A := X.A.in1) (I.ok.hd hc) i1 a na its1.toArray) (Draws.tuple (A := X.A.in1) (I.ok.hd hc) i2 b nb its2.toArray) hz hTI hTO ⟨h1, p1.isList⟩ ⟨h2, p2⟩ (by omega) (by omega) (by omega) fun h' tk hk => ⟨rfl, I.turnedL (t' := tk) (ch := [z, TI, TO, i1, i2]) (fun c o hb q =>
      hk c o (fun q' => hb (by simp [q'])) (fun q' => hb (by simp [q'])) (fun q' => hb (by simp [q'])) (fun q' => hb (by simp [q'])) q) hf⟩
  self := fun A i s Q E st h => wpAny_pyIter_zip st.1 h
theorem sep_newL {n a b : Nat} (ha : a < n) (hb : b < n) : ZipSep2 (n + 4) (n + 2) (n + 3) n (n + 1) [n, a] [n + 1, b] := by
  have a0 : ¬ n = b := by omega
  have a1 : ¬ n + 1 = b := by omega
  have a2 : ¬ n + 2 = b := by omega
  have a3 : ¬ n + 3 = b := by omega
  have a4 : ¬ n + 4 = b := by omega
  have c0 : ¬ n = a := by omega
  have c1 : ¬ n + 1 = a := by omega
  have c2 : ¬ n + 2 = a := by omega
  have c3 : ¬ n + 3 = a := by omega
  have c4 : ¬ n + 4 = a := by omega
  constructor <;> simp [a0, a1, a2, a3, a4, c0, c1, c2, c3, c4] <;> omega
def iZipLT (K : PySem.W.Frag) (ta : TA) : TI := fun σ H R => ta σ H fun vs H1 => ∃ (a b : Addr) (xs ys : List V), vs = [.ref a, .ref b] ∧ SqL K H1 a xs ∧ SqT K H1 b ys ∧ R (ItLT K a b) H1
theorem pi_zipLT {X : Cx} {e e2 : Expr} {ta : TA} {p pos tpos : Pos} {elts : List Expr} {kk : Nat} (hg : Gl X "zip") (hm : X.mg "zip" = none) (ha : PA X [e, e2] ta)
    (hs : starEach [e, e2] X.env = (false, eval e X.env) :: starEach [e2] X.env := by rfl) (hpl : (backTo pos (starEach [e2] X.env)).any (·.1) = false := by rfl) :
    PI X (.Tuple elts kk tpos) (.Call (.Name "zip" p) [e, e2] [] pos) (iZipLT X.K ta) := by
  refine ⟨fun pins s σ H R I h => ?_⟩
  refine Call_ (ld_blt I hg hm PyProof.Rows.boot_zip (PyProof.Rows.callWith_type1 (thn (ha.run pos pins s σ H _ I h) fun us s1 ⟨vs, H1, I1, r1, q1⟩ => ?_) hs hpl))
  obtain ⟨a, b, xs, ys, ex, hqx, hqy, q⟩ := q1
  subst ex
  cases r1 with
  | cons r rr =>
    cases rr with
    | cons r' rr =>
      cases rr
      cases r
      cases r'
      obtain ⟨its1, rv1, p1, _⟩ := I1.list hqx
      obtain ⟨its2, rv2, p2, _⟩ := I1.tuple hqy
      have al : a < s1.heap.objs.size := by
        obtain ⟨o, ho, _⟩ := id p1.isList
        exact Heap.lt_size ho
      have bl : b < s1.heap.objs.size := by
        obtain ⟨o, ho, _⟩ := id p2
        exact Heap.lt_size ho
      refine zip_begins2 (begins_list a its1.toArray) (begins_tuple b its2.toArray) p1.isList p2 fun h' hz hTI hTO h1 h2 hsz hk => wpAny_pyIter_zip hz ?_
      have I2 : Inv X pins σ H1 { s1 with heap := h' } := I1.kept (t' := s1.toks) hk
      refine ⟨s1.heap.objs.size + 4, [s1.heap.objs.size + 4, s1.heap.objs.size + 2, s1.heap.objs.size + 3, s1.heap.objs.size, s1.heap.objs.size + 1], _, _, H1, rfl, I2, turn_zipLT (sep_newL al bl) (Nat.ne_of_lt al) (Nat.ne_of_lt (Nat.lt_succ_of_lt bl)), ⟨hz, hTI, ⟨_, _, hTO⟩, ⟨_, h1, rfl, rfl⟩, ⟨_, h2, rfl, rfl⟩⟩, fun c hcm => ?_, q⟩
      have e' : c = s1.heap.objs.size + 4 ∨ c = s1.heap.objs.size + 2 ∨ c = s1.heap.objs.size + 3 ∨ c = s1.heap.objs.size ∨ c = s1.heap.objs.size + 1 := by simpa using hcm
      have hle : s1.heap.objs.size ≤ c := by
        rcases e' with z | z | z | z | z
        · rw [z]; exact Nat.le_add_right _ _
        · rw [z]; exact Nat.le_add_right _ _
        · rw [z]; exact Nat.le_add_right _ _
        · rw [z]; exact Nat.le_refl _
        · rw [z]; exact Nat.le_add_right _ _
      exact I1.fpOk hle (I1.hok.fresh hle)
theorem walk_zipLT {K : PySem.W.Frag} {a b : Addr} {xs ys : List V} {n : Nat} (hn : n = min xs.length ys.length) : Walk (ItLT K a b) n (fun H => SqL K H a xs ∧ SqT K H b ys) (YPair (fun i => xs[i]?) (fun i => ys[i]?)) := by
  subst hn
  refine ⟨fun i _ hi q => ⟨xs, ys, xs[i]'(by omega), ys[i]'(by omega), q.1, q.2, List.getElem?_eq_getElem _, List.getElem?_eq_getElem _⟩, fun _ q => ⟨xs, ys, q.1, q.2, rfl⟩, fun i H v H' _ q y => ?_⟩
  obtain ⟨T, x, z, h1, h2, h3, h4, h5⟩ := y
  exact ⟨T, x, z, h1, h2, h3, h4 xs q.1, h5 ys q.2⟩
end ZL
/-! sorted(set of texts), sorted(list of texts) of any length -/
namespace TXB
open PySem PySem.Spec PyProof.Rows L2 PySem.W
set_option autoImplicit false
def leS : Str → Str → Bool := dataLe false fun x : Str => PyData.str x
def TxtV (v : Value) (x : Str) : Prop := ∃ t, v = Value.str x t
theorem each_of : ∀ {us : List Value} {xs : List Str}, StrsAre us xs → EachIs TxtV us xs
  | _, _, .nil => .nil
  | _, _, .cons n t r => .cons ⟨t, rfl⟩ (each_of r)
theorem strs_of : ∀ {us : List Value} {xs : List Str}, EachIs TxtV us xs → StrsAre us xs
  | _, _, .nil => .nil
  | _, _, .cons ⟨t, rfl⟩ r => .cons _ t (strs_of r)
theorem vals_of : ∀ {us : List Value} {xs : List Str}, EachIs TxtV us xs → Vals (xs.map V.str) us
  | _, _, .nil => .nil
  | _, _, .cons h r => .cons h (vals_of r)
theorem reads_of {h : Heap} : ∀ {us : List Value} {xs : List Str}, EachIs TxtV us xs → EachIs (fun v x => ∃ as, Reads h v (PyData.str x) as) us xs
  | _, _, .nil => .nil
  | _, _, .cons ⟨t, rfl⟩ r => .cons ⟨[], .str _ t⟩ (reads_of r)
theorem al_strs (xs : List Str) : AllAlike (xs.map fun x => PyData.str x) := by
  intro d hd d' hd'
  obtain ⟨a, _, rfl⟩ := List.mem_map.mp hd
  obtain ⟨b, _, rfl⟩ := List.mem_map.mp hd'
  simp [alike]
theorem so_strs (xs : List Str) : Sortable (xs.map fun x => PyData.str x) := by
  refine .inr fun d hd => ?_
  obtain ⟨a, _, rfl⟩ := List.mem_map.mp hd
  exact ⟨by simp, fun ys => by simp⟩
theorem leS_iff {a b : Str} : leS a b = true ↔ a.cps.toList ≤ b.cps.toList := by
  unfold leS
  rw [dataLe_str fun x : Str => x]
  exact decide_eq_true_iff
theorem ms_perm (xs : List Str) : (xs.mergeSort leS).Perm xs := List.mergeSort_perm xs leS
theorem ms_sorted (xs : List Str) : sortedS (xs.mergeSort leS) = true := by
  refine sortedS_of_pairwise _ ?_
  have h := List.pairwise_mergeSort (le := leS) (fun a b c h1 h2 => leS_iff.mpr (List.le_trans (leS_iff.mp h1) (leS_iff.mp h2))) (fun a b => by
    rw [Bool.or_eq_true, leS_iff, leS_iff]
    exact List.le_total _ _) xs
  refine h.imp fun {a b} hab => ?_
  rw [ltCps_eq]
  exact decide_eq_false (List.not_lt.mpr (leS_iff.mp hab))
section
variable {P : Program} {w : World} {A : Around} {E : Value → Shared → Prop} {s : Shared}
open TX in
theorem sorted_atB {a : Addr} {l : List Str} {Q : Value → Shared → Prop} (R : At P w s.heap a l) (hh : A.handled = none) (hsb : l.length < scanBound) (hu : A.units + 4 < cLine)
    (hQ : ∀ s' p (out : Array Value) (c : Nat) (ys : List Str), (∀ b o, s.heap.get? b = some o → s'.heap.get? b = some o) → s'.gens = s.gens → s'.os = s.os → s.heap.objs.size ≤ p →
      s'.heap.get? p = some (seqObj "list" out c) → StrsAre out.toList ys → ys.Perm l → sortedS ys = true → Q (.ref p) s') :
    wpAny (model P w) A (call (.builtin "sorted") [.ref a]) Q E s := by
  obtain ⟨⟨es, ep, t⟩, ho, ok⟩ := R
  have ft : t.fits es.size = true := ok.tx.fit
  have z : es.size = l.length := ok.tx.sz
  have sb : es.size < scanBound := by omega
  refine Calls.call_function_entry kind_sorted plain_sorted entry_sorted (args_sorted1 _) ?_
  unfold Builtin.«sorted»
  refine wpAny_bind (m := checkCount "sorted" 1 1 _) (wpAny_pure ?_)
  refine wpAny_bind (collect_set (A := A.in1) hh ⟨_, ho, rfl, rfl⟩ ft sb ok.up ok.led fun s1 vs k1 hz g1 o1 pm => ?_)
  obtain ⟨ks, hS, mem, hlen⟩ := texts_of ok.tx.el vs fun v hv => pm.mem_iff.mp hv
  have vl : vs.length = l.length := by rw [pm.length_eq, List.length_map, Array.length_toList]; exact z
  have pk : ks.Perm l := perm_of_sub l ks ok.nd (fun k hk => by
    obtain ⟨e, he, q⟩ := (ok.tx.mem k).mp hk
    exact (mem k).mpr ⟨e.2, pm.mem_iff.mpr (List.mem_map.mpr ⟨e, he, rfl⟩), q⟩) (by omega)
  have szl : vs.length ≤ sizeLine := by
    rw [vl, sizeLine_eq]
    unfold scanBound at hsb
    omega
  refine wpAny_bind (wpAny_newList ?_ szl)
  have hoL : (s1.heap.push (seqObj "list" vs.toArray 0)).get? s1.heap.objs.size = some (seqObj "list" vs.toArray 0) := Heap.get?_push_size _ rfl
  have ei := each_of hS
  have un : ∀ d, d ∈ ks.map (fun x => PyData.str x) → A.in1.in1.units + d.depth < cLine := fun d hd => by
    obtain ⟨b, _, rfl⟩ := List.mem_map.mp hd
    have u1 : A.in1.in1.units ≤ A.units + 2 := by first | exact Nat.le_refl _ | simp [Around.in1]
    simp only [PyData.depth]
    omega
  have er : EachIs (fun v x => ∃ as, Reads (sortingHeap (s1.heap.push (seqObj "list" vs.toArray 0)) s1.heap.objs.size vs) v (PyData.str x) as) vs ks := reads_of ei
  refine wpAny_bind (wpAny_holding (wpAny_call_entry slot_list_sort ⟨_, hoL, rfl⟩ entry_list_sort
    (list_sort_vals (s := { s1 with heap := s1.heap.push (seqObj "list" vs.toArray 0) }) hoL (SortsAt.data (s := { s1 with heap := sortingHeap (s1.heap.push (seqObj "list" vs.toArray 0)) s1.heap.objs.size vs }) (each_map (R := fun v x => ∃ as, Reads (sortingHeap (s1.heap.push (seqObj "list" vs.toArray 0)) s1.heap.objs.size vs) v x as) (fun x : Str => PyData.str x) er) (al_strs ks) (so_strs ks) un) szl ?_) (args_list_sort _)))
  have eo := sortVals_data false ei er (al_strs ks)
  generalize sortVals (dataKind (sortingHeap (s1.heap.push (seqObj "list" vs.toArray 0)) s1.heap.objs.size vs) (ks.map fun x => PyData.str x)) false vs vs = out at eo ⊢
  obtain ⟨c, hc⟩ := sortedHeap_at (vs := vs) (out := out.toArray) hoL
  refine ⟨_, rfl, wpAny_pure ⟨_, rfl, hQ _ s1.heap.objs.size _ c (ks.mergeSort leS) (fun b u e => ?_) g1 o1 hz hc (strs_of eo) ((ms_perm ks).trans pk) (ms_sorted ks)⟩⟩
  have q := k1 b u e
  have lt := Heap.lt_size q
  show (sortedHeap (s1.heap.push (seqObj "list" vs.toArray 0)) s1.heap.objs.size vs _).get? b = some u
  rw [sortedHeap_old (Nat.ne_of_lt lt) (by rw [Heap.size_push]; exact Nat.lt_succ_of_lt lt)]
  exact Heap.get?_push_of_some _ q
end
section
variable {X : Cx}
/-- sorted(set of texts): of any length -/
def rSortTx (P : Program) (w : World) : List V → Hp → VK → Prop := fun vs H Q => ∃ (a : Addr) (l : List Str), vs = [V.ref a] ∧ H a = some (TX.SetTx P w a l) ∧ l.length < scanBound ∧
  ∀ (ys : List Str) (p : Addr), ys.Perm l → sortedS ys = true → H p = none → Q (.ref p) (upd H p (.lst (ys.map V.str)))
theorem cr_sortTx (hc : X.calm = true) (hu : X.A.units + 66 < cLine) : CallR X (.builtin "sorted") (rSortTx X.prog X.w) := by
  intro pins s σ H vs us Q I r h
  obtain ⟨a, l, rfl, ha, hsb, q⟩ := h
  have R : TX.At X.prog X.w s.heap a l := (I.hok a _ ha).1
  rw [Vals.ref1 r]
  refine sorted_atB R (I.ok.hd hc) hsb (by omega) fun s' p out c ys k g o hp hg hi pm so => ?_
  have hlen : (ys.map V.str).length ≤ sizeLine := by
    rw [List.length_map, pm.length_eq, sizeLine_eq]
    unfold scanBound at hsb
    omega
  have hn : H p = none := I.hok.fresh hp
  have J : Inv X pins σ (upd H p (.lst (ys.map V.str))) { s with heap := s'.heap, gens := s'.gens, drawn := s'.drawn, toks := s'.toks } :=
    I.call (ch := []) (Un.laid k hp hn) (I.hok.laid k hp ⟨hlen, out.toList, c, vals_of_strs hi, hg⟩) (by rw [g]; exact I.bare) (fun _ z => nomatch z)
  have e : s' = { s with heap := s'.heap, gens := s'.gens, drawn := s'.drawn, toks := s'.toks } := by
    cases s'
    cases s
    cases o
    rfl
  rw [e]
  exact ⟨.ref p, _, J, rfl, q ys p pm so hn⟩
/-- sorted(xs), xs a list of texts of any length -/
def rSortedS (K : PySem.W.Frag) : List V → Hp → VK → Prop := fun vs H Q => ∃ (a : Addr) (xs : List Str), vs = [V.ref a] ∧ SqL K H a (xs.map V.str) ∧ xs.length ≤ sizeLine ∧
  ∀ (ys : List Str) (p : Addr), ys.Perm xs → sortedS ys = true → H p = none → Q (.ref p) (upd H p (.lst (ys.map V.str)))
theorem cr_sortedS (hu : X.A.units + 66 < cLine) : CallR X (.builtin "sorted") (rSortedS X.K) := by
  intro pins s σ H vs us Q I r h
  obtain ⟨a, xs, rfl, hs, hL, q⟩ := h
  obtain ⟨its, rv, hl, _⟩ := I.list hs
  rw [Vals.ref1 r]
  have ei := each_of rv.strs
  refine sorted_data (enc := fun x : Str => PyData.str x) hl.isList ei (reads_of ei) (al_strs xs) (so_strs xs) hL (fun b _ => ?_) fun out hlen eo => ?_
  · show _ + 2 + (PyData.str _).depth < _
    simp only [PyData.depth]
    omega
  · obtain ⟨c, hc⟩ := sortedAll_at s.heap its out.toArray
    have hn : H (s.heap.objs.size + 1) = none := I.hok.fresh (Nat.le_succ _)
    refine ⟨.ref _, upd H (s.heap.objs.size + 1) (.lst ((xs.mergeSort leS).map V.str)), I.laid (t' := s.toks) (fun _ _ => sortedAll_old) (Nat.le_succ _) ⟨?_, out, c, vals_of eo, hc⟩, rfl, q _ _ (ms_perm xs) (ms_sorted xs) hn⟩
    rw [List.length_map, List.length_mergeSort]
    exact hL
end
end TXB
/-! enumerate(tuple) -/
namespace EN
open PySem PySem.Spec PyProof.Rows L2
theorem meets_new1 {v : Value} {o : Obj} {H : Heap → Prop} (B : Begins v o H) :
    Meets (Builtin.«enumerate.__new__» ⟨[.type "enumerate", v], []⟩) (fun _ R s => H s.heap ∧
      R (.ok (.ret (.ref (s.heap.push o).objs.size))) { s with heap := (s.heap.push o).push { cls := .type "enumerate", data := .fields #[.none, .bool false, .ref s.heap.objs.size, rawInt 0, .none, .none] } }) :=
  .of_wp fun prog w A R s h => by
    obtain ⟨hp, g, d, tk, os⟩ := s
    obtain ⟨h1, h⟩ := h
    have hsub := sub_enumerate
    have q1 : ∀ {A' : Around} {E : Value → Shared → Prop} {Q : Value → Shared → Prop}, Q (.ref hp.objs.size) ⟨hp.push o, g, d, tk, os⟩ → wpAny (model prog w) A' (pyIter v) Q E ⟨hp, g, d, tk, os⟩ :=
      fun q => B.iter prog w _ _ ⟨hp, g, d, tk, os⟩ _ h1 q
    wp_walk using q1
    refine wpAny_stack_any fun st => wpAny_pure ?_
    split
    · rename_i c _ _ _ _ _
      cases (c == Value.type "enumerate")
      · wp_walk using q1
        exact ⟨_, rfl, h⟩
      · wp_walk using q1
        exact ⟨_, rfl, h⟩
    · wp_walk using q1
      exact ⟨_, rfl, h⟩
section
variable {prog : Program} {w : World} {A : Around} {E : Value → Shared → Prop} {s : Shared}
theorem begins1 {v : Value} {o : Obj} {H : Heap → Prop} {Q : Value → Shared → Prop} (B : Begins v o H) (h1 : H s.heap)
    (h : ∀ h', IsEnum h' (s.heap.objs.size + 1) s.heap.objs.size 0 .none → h'.get? s.heap.objs.size = some o → h'.objs.size = s.heap.objs.size + 2 →
      (∀ b o, s.heap.get? b = some o → h'.get? b = some o) → Q (.ref (s.heap.objs.size + 1)) { s with heap := h' }) :
    wpAny (model prog w) A (call (.type "enumerate") [v]) Q E s := by
  refine callType_new F.called_enumerate (by decide) (F.typeCall_enumerate_1 _) (F.newCall_enumerate_1 _) (fun obj => F.args_object_init_2 obj _) F.entry_enumerate_new
    (meets_new1 B) ⟨h1, ?_⟩
  have hz : (s.heap.push o).objs.size = s.heap.objs.size + 1 := Heap.size_push ..
  show _ ∧ _
  rw [hz]
  have he : IsEnum ((s.heap.push o).push { cls := .type "enumerate", data := .fields #[.none, .bool false, .ref s.heap.objs.size, rawInt 0, .none, .none] }) (s.heap.objs.size + 1) s.heap.objs.size 0 .none := by
    have := Heap.get?_push_size (s.heap.push o) (o := { cls := .type "enumerate", data := .fields #[.none, .bool false, .ref s.heap.objs.size, rawInt 0, .none, .none] }) rfl
    rw [hz] at this
    exact this
  exact ⟨⟨_, he, rfl⟩, h _ he (Heap.get?_push_of_some _ (Heap.get?_push_size _ B.free)) (by rw [Heap.size_push, hz]) fun b o x => Heap.get?_push_of_some _ (Heap.get?_push_of_some _ x)⟩
end
/-- the tuple at a, its items with their places in new pairs -/
def ItT (K : PySem.W.Frag) (a : Addr) : It :=
  ⟨fun i H => ∃ (xs : List V) (x : V), SqT K H a xs ∧ xs[i]? = some x, fun i H v H' => ∃ T x, v = .ref T ∧ H T = none ∧ H' = upd H T (.tup [.int (i : Nat), x]) ∧ ∀ xs, SqT K H a xs → xs[i]? = some x, fun i H => ∃ xs : List V, SqT K H a xs ∧ xs.length = i⟩
theorem ne_iter {h : Heap} {it a : Addr} {i : Nat} {its : Array Value} (h1 : h.IsTupleIter it a i) (h2 : h.IsTuple a its) : a ≠ it := fun e => by
  subst e
  obtain ⟨o, ho, hc, _⟩ := h1
  obtain ⟨o', ho', hc', _⟩ := h2
  rw [ho] at ho'
  cases ho'
  rw [hc] at hc'
  injection hc' with q
  exact absurd q (by decide)
theorem turn_T {P : Program} {w : World} {K : PySem.W.Frag} {elts : List Expr} {kk : Nat} {tpos : Pos} (a e it : Addr) (nea : e ≠ a) :
    Turn P w K (.Tuple elts kk tpos) (ItT K a) [e, it] e (fun i h => (∃ old, IsEnum h e it ((i : Nat) : Int) old) ∧ h.IsTupleIter it a i ∧ e ≠ it) where
  mem := by simp
  obj := fun i h st b hb => by
    obtain ⟨⟨old, he⟩, ⟨o, ho, hc, hd⟩, _⟩ := st
    have e' : b = e ∨ b = it := by simpa using hb
    rcases e' with z | z
    · rw [z]; exact ⟨_, he, fun v q => nomatch q⟩
    · rw [z]; exact ⟨o, ho, fun v q => by rw [hd] at q; cases q⟩
  keep := fun i h h' st k => let ⟨⟨old, he⟩, hi, hne⟩ := st; ⟨⟨old, k e (by simp) _ he⟩, hi.at fun o q => k it (by simp) o q, hne⟩
  item := by
    intro X hP hw hK hc i pins s σ H E I hf st hg
    subst hP hw hK
    obtain ⟨⟨old, he⟩, hit, hne⟩ := st
    obtain ⟨xs, x, hq, hx⟩ := hg
    obtain ⟨its, rv, p, hz⟩ := I.tuple hq
    obtain ⟨u, hu, ru⟩ := rv.get hx
    have hel : e < s.heap.objs.size := Heap.lt_size he
    have hil : it < s.heap.objs.size := by obtain ⟨_, q, _⟩ := hit; exact Heap.lt_size q
    have p' : s.heap.IsTuple a its.toArray := p
    have lt : i < its.toArray.size := by
      rw [List.size_toArray]
      exact (List.getElem?_eq_some_iff.mp hu).1
    refine wpAny_pyNext_enum_itemD (Draws.tuple (A := X.A.in1) (I.ok.hd hc) it a (ne_iter hit p') its.toArray) he ⟨hit, p'⟩ lt hne (by simp [hne, nea]) fun x' h' tk px ho st' hT hsz hk => ?_
    have ex : x' = u := by
      rw [List.getElem?_toArray, hu] at px
      exact (Option.some.inj px).symm
    subst ex
    refine ⟨_, rfl, wpAny_letOwnedTupleGo_enum (s := { s with heap := h', toks := tk + 1 }) ho fun h'' he' sb => ?_⟩
    have hT2 : h''.get? s.heap.objs.size = some { cls := .type "tuple", data := .seq #[.int i tk, x'] } := (sb.2 _ (Nat.ne_of_gt hel)).trans hT
    have new : ObjOk X.prog X.w (upd H s.heap.objs.size (.tup [.int (i : Nat), x])) h'' s.heap.objs.size (.tup [.int (i : Nat), x]) :=
      ⟨by show 2 ≤ sizeLine; decide, [.int i tk, x'], .cons ⟨_, rfl⟩ (.cons ru .nil), ⟨_, hT2, rfl, _, rfl⟩⟩
    have I1 : Inv X pins σ (upd H s.heap.objs.size (.tup [.int (i : Nat), x])) { s with heap := h'', toks := tk + 1 } :=
      I.turnedNew (ch := [e, it]) (fun b ob hb q => (sb.2 b (fun z => hb (by simp [z]))).trans (hk b ob (fun z => hb (by simp [z])) (fun z => hb (by simp [z])) q)) hf (Nat.le_refl _) new
    refine ⟨.ref s.heap.objs.size, _, I1, rfl, ⟨_, x, rfl, I.hok.fresh (Nat.le_refl _), rfl, fun ys hy => by rw [I.tuple_inj hy hq]; exact hx⟩, ⟨⟨x', ?_⟩, st'.1.at fun o q => (sb.2 it (Ne.symm hne)).trans q, hne⟩, fun b hb => ?_⟩
    · have e1 : ((i + 1 : Nat) : Int) = (i : Int) + 1 := by omega
      rw [e1]
      exact he'
    · have hb' : b < s.heap.objs.size := by
        have e' : b = e ∨ b = it := by simpa using hb
        rcases e' with z | z
        · rw [z]; exact hel
        · rw [z]; exact hil
      rw [upd_ne (Nat.ne_of_lt hb')]
      exact (hf b hb).1
  done := by
    intro X hP hw hK hc i pins s σ H E I hf st hg
    subst hP hw hK
    obtain ⟨⟨old, he⟩, hit, hne⟩ := st
    obtain ⟨xs, hq, hx⟩ := hg
    obtain ⟨its, rv, p, hz⟩ := I.tuple hq
    have p' : s.heap.IsTuple a its.toArray := p
    obtain ⟨f0, f1, f2, f3, f4, f5⟩ := hf it (by simp)
    have hl := rv.length
    have ei : i = its.toArray.size := by rw [List.size_toArray]; omega
    exact wpAny_pyNext_enum_endD (Draws.tuple (A := X.A.in1) (I.ok.hd hc) it a (ne_iter hit p') its.toArray) he (by rw [← ei]; exact ⟨hit, p'⟩) fun h' eb => ⟨rfl, I.turned (t' := s.toks) (fun b o hb q => eb b o hb q) f0 f1 f3 f4 f5⟩
  self := fun A i s Q E st h => let ⟨⟨_, he⟩, _⟩ := st; wpAny_pyIter_enum he h
def iEnT (K : PySem.W.Frag) (ta : TA) : TI := fun σ H R => ta σ H fun vs H1 => ∃ a xs, vs = [.ref a] ∧ SqT K H1 a xs ∧ R (ItT K a) H1
theorem pi_enT {X : Cx} {e : Expr} {ta : TA} {p pos tpos : Pos} {elts : List Expr} {kk : Nat} (hg : Gl X "enumerate") (hm : X.mg "enumerate" = none) (ha : PA X [e] ta) (hs : starEach [e] X.env = [(false, eval e X.env)] := by rfl) :
    PI X (.Tuple elts kk tpos) (.Call (.Name "enumerate" p) [e] [] pos) (iEnT X.K ta) := by
  refine ⟨fun pins s σ H R I h => ?_⟩
  refine Call_ (ld_blt I hg hm boot_enumerate (PyProof.Rows.callWith_type1 (thn (ha.run pos pins s σ H _ I h) fun us s1 ⟨vs, H1, I1, r1, q1⟩ => ?_) hs rfl))
  obtain ⟨a, xs, ex, hq, q⟩ := q1
  subst ex
  cases r1 with
  | cons r rr =>
    cases rr
    cases r
    obtain ⟨its, rv, p', hz⟩ := I1.tuple hq
    have p2 : s1.heap.IsTuple a its.toArray := p'
    have al : a < s1.heap.objs.size := by
      obtain ⟨_, h0, _⟩ := p2
      exact Heap.lt_size h0
    refine begins1 (begins_tuple a its.toArray) p2 fun h' he hit hsz hk => wpAny_pyIter_enum he ?_
    have I2 : Inv X pins σ H1 { s1 with heap := h' } := I1.kept (t' := s1.toks) hk
    refine ⟨s1.heap.objs.size + 1, [s1.heap.objs.size + 1, s1.heap.objs.size], _, _, H1, rfl, I2, turn_T a (s1.heap.objs.size + 1) s1.heap.objs.size (fun z => absurd (z ▸ al) (Nat.not_lt.mpr (Nat.le_succ _))), ⟨⟨.none, he⟩, ⟨_, hit, rfl, rfl⟩, Nat.succ_ne_self _⟩, fun b hb => ?_, q⟩
    have e' : b = s1.heap.objs.size + 1 ∨ b = s1.heap.objs.size := by simpa using hb
    have hle : s1.heap.objs.size ≤ b := by
      rcases e' with z | z
      · rw [z]; exact Nat.le_add_right _ _
      · rw [z]; exact Nat.le_refl _
    exact I1.fpOk hle (I1.hok.fresh hle)
theorem walk_T {K : PySem.W.Frag} {a : Addr} {xs : List V} : Walk (ItT K a) xs.length (fun H => SqT K H a xs) (YPair (fun i => some (.int (i : Nat))) (fun i => xs[i]?)) := by
  refine ⟨fun i _ hi q => ⟨xs, xs[i], q, by simp [hi]⟩, fun _ q => ⟨xs, q, rfl⟩, fun i H v H' _ q y => ?_⟩
  obtain ⟨T, x, h1, h2, h3, h4⟩ := y
  exact ⟨T, .int (i : Nat), x, h1, h2, h3, rfl, h4 xs q⟩
end EN
/-! enumerate(text) -/
namespace ENS
open PySem PySem.Spec PyProof.Rows L2
/-- the signs of a text with their places in new pairs -/
def ItS (x : Str) : It :=
  ⟨fun i H => i < x.cps.size, fun i H v H' => ∃ T c, v = .ref T ∧ H T = none ∧ H' = upd H T (.tup [.int (i : Nat), .str ⟨#[c]⟩]) ∧ x.cps[i]? = some c, fun i H => i = x.cps.size⟩
theorem turn_S {P : Program} {w : World} {K : PySem.W.Frag} {elts : List Expr} {kk : Nat} {tpos : Pos} (x : Str) (t : Tok) (e it : Addr) (ne : e ≠ it) :
    Turn P w K (.Tuple elts kk tpos) (ItS x) [e, it] e (fun i h => (∃ old, IsEnum h e it ((i : Nat) : Int) old) ∧ h.IsStrIter it (strIterType x) x t i) where
  mem := by simp
  obj := fun i h st b hb => by
    obtain ⟨⟨old, he⟩, ⟨o, ho, hc, hd⟩⟩ := st
    have e' : b = e ∨ b = it := by simpa using hb
    rcases e' with z | z
    · rw [z]; exact ⟨_, he, fun v q => nomatch q⟩
    · rw [z]; exact ⟨o, ho, fun v q => by rw [hd] at q; cases q⟩
  keep := fun i h h' st k => by
    obtain ⟨⟨old, he⟩, ⟨o, ho, r⟩⟩ := st
    exact ⟨⟨old, k e (by simp) _ he⟩, ⟨o, k it (by simp) _ ho, r⟩⟩
  item := by
    intro X hP hw hK hc i pins s σ H E I hf st hg
    subst hP hw hK
    obtain ⟨⟨old, he⟩, hit⟩ := st
    have hel : e < s.heap.objs.size := Heap.lt_size he
    have hil : it < s.heap.objs.size := by obtain ⟨_, q, _⟩ := hit; exact Heap.lt_size q
    refine wpAny_pyNext_enum_itemD (Draws.text (A := X.A.in1) (I.ok.hd hc) it x t) he hit hg ne (by simp [ne]) fun x' h' tk px ho st' hT hsz hk => ?_
    obtain ⟨c, u, hc1, rfl⟩ := px
    refine ⟨_, rfl, wpAny_letOwnedTupleGo_enum (s := { s with heap := h', toks := tk + 1 }) ho fun h'' he' sb => ?_⟩
    have hT2 : h''.get? s.heap.objs.size = some { cls := .type "tuple", data := .seq #[.int i tk, .str ⟨#[c]⟩ u] } := (sb.2 _ (Nat.ne_of_gt hel)).trans hT
    have new : ObjOk X.prog X.w (upd H s.heap.objs.size (.tup [.int (i : Nat), .str ⟨#[c]⟩])) h'' s.heap.objs.size (.tup [.int (i : Nat), .str ⟨#[c]⟩]) :=
      ⟨by show 2 ≤ sizeLine; decide, [.int i tk, .str ⟨#[c]⟩ u], .cons ⟨_, rfl⟩ (.cons ⟨_, rfl⟩ .nil), ⟨_, hT2, rfl, _, rfl⟩⟩
    have I1 : Inv X pins σ (upd H s.heap.objs.size (.tup [.int (i : Nat), .str ⟨#[c]⟩])) { s with heap := h'', toks := tk + 1 } :=
      I.turnedNew (ch := [e, it]) (fun b ob hb q => (sb.2 b (fun z => hb (by simp [z]))).trans (hk b ob (fun z => hb (by simp [z])) (fun z => hb (by simp [z])) q)) hf (Nat.le_refl _) new
    refine ⟨.ref s.heap.objs.size, _, I1, rfl, ⟨_, c, rfl, I.hok.fresh (Nat.le_refl _), rfl, hc1⟩, ⟨⟨.str ⟨#[c]⟩ u, ?_⟩, ?_⟩, fun b hb => ?_⟩
    · have e1 : ((i + 1 : Nat) : Int) = (i : Int) + 1 := by omega
      rw [e1]
      exact he'
    · obtain ⟨o, e1, r⟩ := st'
      exact ⟨o, (sb.2 it (Ne.symm ne)).trans e1, r⟩
    · have hb' : b < s.heap.objs.size := by
        have e' : b = e ∨ b = it := by simpa using hb
        rcases e' with z | z
        · rw [z]; exact hel
        · rw [z]; exact hil
      rw [upd_ne (Nat.ne_of_lt hb')]
      exact (hf b hb).1
  done := by
    intro X hP hw hK hc i pins s σ H E I hf st hg
    subst hP hw hK
    obtain ⟨⟨old, he⟩, hit⟩ := st
    have ei : i = x.cps.size := hg
    obtain ⟨f0, f1, f2, f3, f4, f5⟩ := hf it (by simp)
    exact wpAny_pyNext_enum_endD (Draws.text (A := X.A.in1) (I.ok.hd hc) it x t) he (by rw [← ei]; exact hit) fun h' eb => ⟨rfl, I.turned (t' := s.toks) (fun b o hb q => eb b o hb q) f0 f1 f3 f4 f5⟩
  self := fun A i s Q E st h => let ⟨⟨_, he⟩, _⟩ := st; wpAny_pyIter_enum he h
def iEnS (ta : TA) : TI := fun σ H R => ta σ H fun vs H1 => ∃ x, vs = [.str x] ∧ R (ItS x) H1
theorem pi_enS {X : Cx} {e : Expr} {ta : TA} {p pos tpos : Pos} {elts : List Expr} {kk : Nat} (hg : Gl X "enumerate") (hm : X.mg "enumerate" = none) (ha : PA X [e] ta) (hs : starEach [e] X.env = [(false, eval e X.env)] := by rfl) :
    PI X (.Tuple elts kk tpos) (.Call (.Name "enumerate" p) [e] [] pos) (iEnS ta) := by
  refine ⟨fun pins s σ H R I h => ?_⟩
  refine Call_ (ld_blt I hg hm boot_enumerate (PyProof.Rows.callWith_type1 (thn (ha.run pos pins s σ H _ I h) fun us s1 ⟨vs, H1, I1, r1, q1⟩ => ?_) hs rfl))
  obtain ⟨x, ex, q⟩ := q1
  subst ex
  cases r1 with
  | cons r rr =>
    cases rr
    obtain ⟨t, rfl⟩ := r
    refine EN.begins1 (begins_text x t) trivial fun h' he hit hsz hk => wpAny_pyIter_enum he ?_
    have I2 : Inv X pins σ H1 { s1 with heap := h' } := I1.kept (t' := s1.toks) hk
    refine ⟨s1.heap.objs.size + 1, [s1.heap.objs.size + 1, s1.heap.objs.size], _, _, H1, rfl, I2, turn_S x t (s1.heap.objs.size + 1) s1.heap.objs.size (Nat.succ_ne_self _), ⟨⟨.none, he⟩, ⟨_, hit, rfl, rfl⟩⟩, fun b hb => ?_, q⟩
    have e' : b = s1.heap.objs.size + 1 ∨ b = s1.heap.objs.size := by simpa using hb
    have hle : s1.heap.objs.size ≤ b := by
      rcases e' with z | z
      · rw [z]; exact Nat.le_add_right _ _
      · rw [z]; exact Nat.le_refl _
    exact I1.fpOk hle (I1.hok.fresh hle)
theorem walk_S {x : Str} : Walk (ItS x) x.cps.size (fun _ => True) (fun i H v H' => ∃ T c, v = .ref T ∧ H T = none ∧ H' = upd H T (.tup [.int (i : Nat), .str ⟨#[c]⟩]) ∧ x.cps[i]? = some c) :=
  ⟨fun i _ hi _ => hi, fun _ _ => rfl, fun i H v H' _ _ y => y⟩
end ENS
namespace DW
open PySem PySem.Spec PyProof.Rows L2
/-! ### a def that stands in the module -/
structure Df (K : PySem.W.Frag) (mg : Str → Option Value) (x : Str) (st : Stmt) (ps : List Str) where
  f : Addr
  fd : FuncData
  F : FunD K x x (defArgs st) (defBody st) (defScope st) [] [] f fd
  g : mg x = some (.ref f)
  b : Binds K fd ps []
/-! ### heaps: all but the tape stays -/
structure Kp (t : Addr) (H H' : Hp) : Prop where
  old : ∃ kvs, H t = some (.dK kvs)
  new : ∃ kvs, H' t = some (.dK kvs)
  oth : ∀ b o, b ≠ t → H b = some o → H' b = some o
theorem Kp.trans {t : Addr} {H H1 H2 : Hp} (a : Kp t H H1) (b : Kp t H1 H2) : Kp t H H2 := ⟨a.old, b.new, fun c o n e => b.oth c o n (a.oth c o n e)⟩
theorem Kp.of {t : Addr} {H H' : Hp} {kvs : List (Key × V)} (e : H t = some (.dK kvs)) (s : Same H H') : Kp t H H' := ⟨⟨_, e⟩, ⟨_, s _ _ e⟩, fun b o _ h => s b o h⟩
theorem Kp.at {t b : Addr} {H H' : Hp} {o : HO} (k : Kp t H H') (h : H b = some o) (n : ∀ kvs, o ≠ .dK kvs) : H' b = some o := by
  obtain ⟨kvs, e⟩ := k.old
  exact k.oth b o (fun z => by
    subst z
    rw [e] at h
    exact n kvs (Option.some.inj h).symm) h
theorem Kp.lst {t b : Addr} {H H' : Hp} {xs : List V} {K : PySem.W.Frag} (k : Kp t H H') (h : SqL K H b xs) : SqL K H' b xs := by
  rcases h with (h | ⟨o, h⟩) | h
  · exact .inl (.inl (k.at h fun _ z => by cases z))
  · exact .inl (.inr ⟨o, k.at h fun _ z => by cases z⟩)
  · exact .inr h
theorem Kp.tup {t b : Addr} {H H' : Hp} {xs : List V} {K : PySem.W.Frag} (k : Kp t H H') (h : SqT K H b xs) : SqT K H' b xs := by
  rcases h with (h | ⟨o, h⟩) | h
  · exact .inl (.inl (k.at h fun _ z => by cases z))
  · exact .inl (.inr ⟨o, k.at h fun _ z => by cases z⟩)
  · exact .inr h
theorem same_upd {H : Hp} {p : Addr} {o : HO} (h : H p = none) : Same H (upd H p o) := fun b x e => by
  rw [upd_ne (ne_of_none e h)]
  exact e
theorem Kp.gone {t b : Addr} {H H' : Hp} (k : Kp t H H') (h : H' b = none) : H b = none := by
  cases q : H b with
  | none => rfl
  | some o =>
    by_cases e : b = t
    · obtain ⟨kvs, z⟩ := k.new
      rw [e, z] at h
      cases h
    · rw [k.oth b o e q] at h
      cases h
/-! ### the tape -/
def tpd (c : Addr) (p l : Int) : List (Key × V) := [(.inr "cells", .ref c), (.inr "place", .int p), (.inr "left", .int l)]
structure Tape (H : Hp) (t c : Addr) (n : Nat) : Prop where
  ex : ∃ (cells : List Int) (p : Nat) (l : Int), H t = some (.dK (tpd c p l)) ∧ H c = some (.lst (cells.map V.int)) ∧ 0 < cells.length ∧ cells.length ≤ 63 ∧ p ≤ n ∧ 0 ≤ l
section
variable {H H' : Hp} {t c : Addr} {n m : Nat}
theorem Tape.dk (T : Tape H t c n) : ∃ kvs, H t = some (.dK kvs) := by
  obtain ⟨cells, p, l, h, _⟩ := T.ex
  exact ⟨_, h⟩
theorem Tape.same (T : Tape H t c n) (s : Same H H') : Tape H' t c n := by
  obtain ⟨cells, p, l, h, hc, r⟩ := T.ex
  exact ⟨cells, p, l, s _ _ h, s _ _ hc, r⟩
theorem Tape.kp (T : Tape H t c n) (s : Same H H') : Kp t H H' := by
  obtain ⟨kvs, h⟩ := T.dk
  exact Kp.of h s
theorem Tape.mono (T : Tape H t c n) (h : n ≤ m) : Tape H t c m := by
  obtain ⟨cells, p, l, h1, h2, h3, h4, h5, h6⟩ := T.ex
  exact ⟨cells, p, l, h1, h2, h3, h4, Nat.le_trans h5 h, h6⟩
theorem Kp.refl (T : Tape H t c n) : Kp t H H := T.kp (Same.refl H)
/-- a store at an object that is not the tape's -/
theorem Tape.upd {D : Addr} {o : HO} (T : Tape H t c n) (h1 : D ≠ t) (h2 : D ≠ c) : Tape (upd H D o) t c n := by
  obtain ⟨cells, p, l, h, hc, r⟩ := T.ex
  exact ⟨cells, p, l, (upd_ne h1.symm).trans h, (upd_ne h2.symm).trans hc, r⟩
theorem Tape.ne1 {D : Addr} (T : Tape H t c n) (h : H D = none) : D ≠ t := fun z => by
  obtain ⟨cells, p, l, e, hc, r⟩ := T.ex
  rw [z, e] at h
  cases h
theorem Tape.ne2 {D : Addr} (T : Tape H t c n) (h : H D = none) : D ≠ c := fun z => by
  obtain ⟨cells, p, l, e, hc, r⟩ := T.ex
  rw [z, hc] at h
  cases h
theorem Kp.put {D : Addr} {o : HO} (k : Kp t H H') (h : H D = Option.none) (h1 : D ≠ t) : Kp t H (L2.upd H' D o) := by
  obtain ⟨kvs, e⟩ := k.new
  refine ⟨k.old, ⟨kvs, (upd_ne h1.symm).trans e⟩, fun b u n q => ?_⟩
  rw [upd_ne (ne_of_none q h)]
  exact k.oth b u n q
end
theorem ks1 : ¬ (("cells" : Str) = "place") := by decide +kernel
theorem ks2 : ¬ (("cells" : Str) = "left") := by decide +kernel
theorem ks3 : ¬ (("place" : Str) = "left") := by decide +kernel
theorem ks1' : ¬ (("place" : Str) = "cells") := by decide +kernel
theorem ks2' : ¬ (("left" : Str) = "cells") := by decide +kernel
theorem ks3' : ¬ (("left" : Str) = "place") := by decide +kernel
theorem tp_cells (c : Addr) (p l : Int) : valV (tpd c p l) (Sum.inr ("cells" : Str)) = some (.ref c) := by simp [tpd, valV]
theorem tp_place (c : Addr) (p l : Int) : valV (tpd c p l) (Sum.inr ("place" : Str)) = some (.int p) := by simp [tpd, valV, ks1]
theorem tp_left (c : Addr) (p l : Int) : valV (tpd c p l) (Sum.inr ("left" : Str)) = some (.int l) := by simp [tpd, valV, ks2, ks3]
theorem tp_put_place (c : Addr) (p q l : Int) : putK (tpd c p l) (Sum.inr ("place" : Str)) (.int q) = tpd c q l := by simp [putK, tpd, ks1, ks3']
theorem tp_put_left (c : Addr) (p l m : Int) : putK (tpd c p l) (Sum.inr ("left" : Str)) (.int m) = tpd c p m := by simp [putK, tpd, ks2, ks3]
theorem tp_merge (c : Addr) (p l : Int) : mergeK [] (tpd c p l) = tpd c p l := by simp [mergeK, putK, tpd, ks1, ks2, ks3]
theorem g_cells {H : Hp} {t c : Addr} {p l : Int} (h : H t = some (.dK (tpd c p l))) : DGet H t (.str "cells") (some (.ref c)) := by
  have q := DGet.k (k := Sum.inr ("cells" : Str)) h
  rw [tp_cells] at q
  exact q
theorem g_place {H : Hp} {t c : Addr} {p l : Int} (h : H t = some (.dK (tpd c p l))) : DGet H t (.str "place") (some (.int p)) := by
  have q := DGet.k (k := Sum.inr ("place" : Str)) h
  rw [tp_place] at q
  exact q
theorem g_left {H : Hp} {t c : Addr} {p l : Int} (h : H t = some (.dK (tpd c p l))) : DGet H t (.str "left") (some (.int l)) := by
  have q := DGet.k (k := Sum.inr ("left" : Str)) h
  rw [tp_left] at q
  exact q
theorem p_place {H : Hp} {t c : Addr} {p l : Int} (q : Int) (h : H t = some (.dK (tpd c p l))) : DPut H t (.str "place") (.int q) (upd H t (.dK (tpd c q l))) := by
  have z := DPut.k (k := Sum.inr ("place" : Str)) (v := V.int q) h (by show 3 < sizeLine; decide)
  rw [tp_put_place] at z
  exact z
theorem p_left {H : Hp} {t c : Addr} {p l : Int} (q : Int) (h : H t = some (.dK (tpd c p l))) : DPut H t (.str "left") (.int q) (upd H t (.dK (tpd c p q))) := by
  have z := DPut.k (k := Sum.inr ("left" : Str)) (v := V.int q) h (by show 3 < sizeLine; decide)
  rw [tp_put_left] at z
  exact z
def spBegin (K : PySem.W.Frag) : Sp := fun vs H Q _ => ∃ (a : Addr) (ns : List Int), vs = [.ref a] ∧ SqL K H a (ns.map V.int) ∧ ∀ H' t c, Same H H' → H t = none → H c = none → Tape H' t c 0 → Q (.ref t) H'
def spDraw : Sp := fun vs H Q _ => ∃ (t c : Addr) (m : Int) (n : Nat), vs = [.ref t, .int m] ∧ Tape H t c n ∧ n < 2 ^ 40 ∧ 0 < m ∧ m < 2 ^ 30 ∧ ∀ H' r, Kp t H H' → Tape H' t c (n + 1) → 0 ≤ r → r < m → Q (.int r) H'
/-- pick: from a list, from a text -/
def spPick (K : PySem.W.Frag) : Sp := fun vs H Q _ => ∃ (t c : Addr) (n : Nat) (x : V), vs = [.ref t, x] ∧ Tape H t c n ∧ n < 2 ^ 40 ∧
  ((∃ a xs, x = .ref a ∧ SqL K H a xs ∧ xs ≠ [] ∧ xs.length < 2 ^ 30 ∧ ∀ H' y, Kp t H H' → Tape H' t c (n + 1) → y ∈ xs → Q y H') ∨
   (∃ z : Str, x = .str z ∧ z.length ≠ 0 ∧ z.length < 2 ^ 20 ∧ ∀ H' d, Kp t H H' → Tape H' t c (n + 1) → d ∈ z.cps.toList → Q (.str ⟨#[d]⟩) H'))
section
variable {P : Program} {w : World} {K : PySem.W.Frag} {mg : Str → Option Value} {base : Heap}
theorem scBegin : FnScope ["_law_script"] ["_law_script"] (defScope sBegin) := ⟨rfl, rfl, rfl, by decide +kernel, rfl, by decide +kernel, by decide +kernel⟩
theorem cut63 (ns : List Int) : ∃ ms : List Int, cutV (ns.map V.int) none (some 63) = ms.map V.int ∧ ms.length ≤ 63 := by
  refine ⟨ns.take 63, ?_, ?_⟩
  · unfold cutV
    rw [HT.sIx_none, show HT.sIx (ns.map V.int).length (ns.map V.int).length (some 63) = min 63 (ns.map V.int).length from HT.sIx_nat _ _ 63, List.map_take]
    show List.take _ (List.drop 0 _) = _
    rw [List.drop_zero, Nat.sub_zero]
    by_cases c : 63 ≤ (ns.map V.int).length
    · rw [Nat.min_eq_left c]
    · rw [Nat.min_eq_right (by omega), List.take_length, List.take_of_length_le (by omega)]
  · rw [List.length_take]
    omega
theorem ok_begin (D : Df K mg "_law_begin" sBegin ["_law_script"]) : FnOk P w K mg base CX0 1 D.f D.fd ["_law_script"] (spBegin K) := by
  refine D.F.ok scBegin (fun vs H Q E h => ?_) (fun cdv A outer s H vs Q E hr h => ?_)
  · obtain ⟨a, ns, rfl, _⟩ := h
    rfl
  · obtain ⟨a, ns, rfl, hS, k⟩ := h
    refine ⟨_, pss_one (ps_ret (pe_disp (pps_cons pe_str (pe_orT (pe_slice sl_list (pv 0) po_none (po_some pe_int)) (pe_one (pe_lst (pa_cons pe_int pa_nil)))) (pps_cons pe_str pe_int (pps_cons pe_str pe_int pps_nil))) (by rfl) (by rfl) (fun z => by cases z) (by decide))), ?_⟩
    intro t ht
    have s1 : Same H (upd H t (.dK [])) := same_upd ht
    obtain ⟨ms, em, hm⟩ := cut63 ns
    refine ⟨_, rfl, 63, rfl, a, ns.map V.int, rfl, s1.seq hS, fun c hc => ?_⟩
    have nct : c ≠ t := fun z => by
      rw [z, upd_same] at hc
      cases hc
    rw [em]
    refine ⟨!(ms.map V.int).isEmpty, .inl ⟨_, SqL.of upd_same, rfl⟩, ite2 (fun e => ?_) (fun e => ?_)⟩
    · refine ⟨Eq.trans (upd_ne nct.symm) upd_same, tpd c 0 0, rfl, by show 3 ≤ 15; decide, ?_⟩
      rw [tp_merge]
      refine k _ t c (fun b o eb => ?_) ht (s1.free hc) ⟨ms, 0, 0, upd_same, Eq.trans (upd_ne nct) upd_same, ?_, hm, Nat.le_refl _, Int.le_refl _⟩
      · have nb : b ≠ t := ne_of_none eb ht
        rw [upd_ne nb]
        exact same_upd hc _ _ (s1 _ _ eb)
      · cases ms with
        | nil => cases e
        | cons x r => exact Nat.succ_pos _
    · refine ⟨by show 1 ≤ sizeLine; decide, fun d hd => ?_⟩
      have ndt : d ≠ t := fun z => by
        rw [z, upd_ne nct.symm, upd_same] at hd
        cases hd
      refine ⟨Eq.trans (upd_ne ndt.symm) (Eq.trans (upd_ne nct.symm) upd_same), tpd d 0 0, rfl, by show 3 ≤ 15; decide, ?_⟩
      rw [tp_merge]
      refine k _ t d (fun b o eb => ?_) ht (s1.free ((same_upd hc).free hd)) ⟨[0], 0, 0, upd_same, Eq.trans (upd_ne ndt) upd_same, Nat.succ_pos _, by decide, Nat.le_refl _, Int.le_refl _⟩
      have nb : b ≠ t := ne_of_none eb ht
      rw [upd_ne nb]
      exact same_upd hd _ _ (same_upd hc _ _ (s1 _ _ eb))
theorem scDraw : FnScope ["_law_tape", "_law_many", "_law_place", "_law_count", "_law_cell", "_law_found"] ["_law_tape", "_law_many"] (defScope sDraw) := ⟨rfl, rfl, rfl, by decide +kernel, rfl, by decide +kernel, by decide +kernel⟩
theorem tape_put {H : Hp} {t c : Addr} {cells : List Int} {n p : Nat} {l : Int} {kvs : List (Key × V)} (e : H t = some (.dK kvs)) (hc : H c = some (.lst (cells.map V.int))) (h1 : 0 < cells.length) (h2 : cells.length ≤ 63) (hp : p ≤ n) (hl : 0 ≤ l) :
    Tape (upd H t (.dK (tpd c p l))) t c n := by
  have nct : c ≠ t := ne_of hc e (by intro z; cases z)
  exact ⟨cells, p, l, upd_same, Eq.trans (upd_ne nct) hc, h1, h2, hp, hl⟩
theorem kp_put {H : Hp} {t : Addr} {kvs kvs' : List (Key × V)} (e : H t = some (.dK kvs)) : Kp t H (upd H t (.dK kvs')) := ⟨⟨_, e⟩, ⟨_, upd_same⟩, fun b o n h => (upd_ne n).trans h⟩
theorem ok_draw (D : Df K mg "_law_draw" sDraw ["_law_tape", "_law_many"]) (ml : mg "len" = none) : FnOk P w K mg base CX0 1 D.f D.fd ["_law_tape", "_law_many"] spDraw := by
  refine D.F.ok scDraw (fun vs H Q E h => ?_) (fun cdv A outer s H vs Q E hr h => ?_)
  · obtain ⟨t, c, m, n, rfl, _⟩ := h
    rfl
  · obtain ⟨t, c, m, n, rfl, T, hn, m0, m1, k⟩ := h
    have hu := hu_of hr
    refine ⟨_, C8.pss_cut (ps_if (pt_cmpR op_lt (pe_dget hu (pv 0) pe_str (fun _ _ => rfl)) (pv 1) (nomark _))
        (pss_cons (ps_par (i := 2) (j := 3) rfl scDraw.nd rfl rfl (by decide) rfl rfl (pa_cons (pe_dget hu (pv 0) pe_str (fun _ _ => rfl)) (pa_cons (pe_callB call_len_seq (by rfl) ml PySem.boot_len (pa_cons (pe_dget hu (pv 0) pe_str (fun _ _ => rfl)) pa_nil)) pa_nil)) (by rfl))
        (pss_cons (ps_asg (pe_tup (pa_cons (pe_ix ix_list (pe_dget hu (pv 0) pe_str (fun _ _ => rfl)) (pe_op op_mod (pv 2) (pv 3)) (fun _ _ => rfl)) (pa_cons (pe_op op_add (pv 2) pe_int) pa_nil)))
            (pg_tup rfl (pgs_cons (pg_name (i := 4) scDraw.nd rfl (.inl rfl)) (pgs_cons (pg_sub (pv 0) pe_str (set_dict hu)) pgs_nil))))
        (pss_cons (ps_dput hu (pv 0) pe_str (pe_op op_mod (pe_op op_pow (pe_op op_add (pe_op op_add (pe_op op_mod (pv 4) pe_int) (pe_op op_mul pe_int (pv 2))) pe_int) pe_int) (pe_op op_add (pe_op op_pow pe_int pe_int) pe_int)) rfl)
        (pss_one (ps_if (pw_and (pt_cmpR op_ge (pv 4) (pe_op op_pow pe_int pe_int) (nomark _)) (pw_and1 (pt_cmpR op_lt (pv 2) (pv 3) (nomark _)))).pt
          (pss_one (ps_dput hu (pv 0) pe_str (pe_op op_sub (pv 4) (pe_op op_pow pe_int pe_int)) rfl)) pss_nil))))) pss_nil)
      (pss_cons (ps_asg (pe_tup (pa_cons (pe_op op_mod (pe_dget hu (pv 0) pe_str (fun _ _ => rfl)) (pv 1)) (pa_cons (pe_op op_fdiv (pe_dget hu (pv 0) pe_str (fun _ _ => rfl)) (pv 1)) pa_nil)))
            (pg_tup rfl (pgs_cons (pg_name (i := 5) scDraw.nd rfl (.inl rfl)) (pgs_cons (pg_sub (pv 0) pe_str (set_dict hu)) pgs_nil))))
      (pss_one (ps_ret (pv 5)))), ?_⟩
    have m1' : m < 1073741824 := m1
    obtain ⟨cells, p, l, ht, hc, c0, c63, hp, l0⟩ := T.ex
    refine ⟨fun σ' H' => ∃ y2 y3 y4, σ' = [some (.ref t), some (.int m), y2, y3, y4, none] ∧ Kp t H H' ∧ Tape H' t c (n + 1), ?_, ?_⟩
    · refine ⟨.ref t, rfl, t, .int l, rfl, g_left ht, .int m, rfl, l, m, rfl, rfl, _, rfl, ite2 (fun e => ?_) (fun e => ?_)⟩
      · refine ⟨.ref t, rfl, t, .int p, rfl, g_place ht, .ref t, rfl, t, .ref c, rfl, g_cells ht, c, _, rfl, .inl (SqL.of hc), _, _, rfl, ?_⟩
        have lp : 0 < (cells.map V.int).length := by
          rw [List.length_map]
          exact c0
        have jl : p % (cells.map V.int).length < cells.length := by
          have := Nat.mod_lt p lp
          rw [List.length_map] at this ⊢
          exact this
        have ga : (cells.map V.int)[p % (cells.map V.int).length]? = some (.int cells[p % (cells.map V.int).length]) := by
          rw [List.getElem?_map, List.getElem?_eq_getElem jl]
          rfl
        generalize cells[p % (cells.map V.int).length] = z at ga
        refine ⟨.ref t, rfl, t, .ref c, rfl, g_cells ht, _, rfl, _, rfl, (p : Int), ((cells.map V.int).length : Int), rfl, rfl, by omega, c, _, _, .int z, rfl, rfl, SqL.of hc, at_of (j := p % (cells.map V.int).length) (by rw [Int.natCast_emod]) ga, .int p, rfl, (p : Int), 1, rfl, rfl, by show 2 ≤ sizeLine; decide, fun q hq => ?_⟩
        have s1 : Same H (upd H q (.tup [.int z, .int ((p : Int) + 1)])) := same_upd hq
        have ht1 := s1 _ _ ht
        have hc1 := s1 _ _ hc
        have nct : c ≠ t := ne_of hc ht (by intro z; cases z)
        refine ⟨q, _, rfl, SqT.of upd_same, rfl, _, _, rfl, _, _, rfl, .ref t, rfl, t, _, rfl, p_place ((p : Int) + 1) ht1, rfl, ?_⟩
        have hn' : n < 1099511627776 := hn
        have zm0 : 0 ≤ z % 2147483647 := Int.emod_nonneg _ (by decide)
        have zm1 : z % 2147483647 < 2147483647 := Int.emod_lt_of_pos _ (by decide)
        have b0 : (z % 2147483647 + 69621 * (p : Int) + 48271).natAbs < 2 ^ 64 := by omega
        refine ⟨.int z, rfl, z, 2147483647, rfl, rfl, (by show (0 : Int) < 2147483647; decide), .int p, rfl, 69621, (p : Int), rfl, rfl, .inl ⟨by decide, by decide⟩, _, _, rfl, rfl, _, 48271, rfl, rfl, _, 17, rfl, rfl, ⟨by decide, by decide, b0⟩, 10, 50, rfl, rfl, ⟨by decide, by decide, by decide⟩, _, 151, rfl, rfl, _, _, rfl, rfl, ?_, ?_⟩
        · exact (by decide +kernel : (0 : Int) < 10 ^ (50 : Int).toNat + 151)
        have ht2 : (upd (upd H q (.tup [.int z, .int ((p : Int) + 1)])) t (.dK (tpd c ((p : Int) + 1) l))) t = some (.dK (tpd c ((p : Int) + 1) l)) := upd_same
        refine ⟨.ref t, rfl, t, _, rfl, p_left ((z % 2147483647 + 69621 * (p : Int) + 48271) ^ (17 : Int).toNat % (10 ^ (50 : Int).toNat + 151)) ht2, ?_⟩
        have x0 : 0 ≤ (z % 2147483647 + 69621 * (p : Int) + 48271) ^ (17 : Int).toNat % (10 ^ (50 : Int).toNat + 151) := Int.emod_nonneg _ (by decide +kernel)
        generalize (z % 2147483647 + 69621 * (p : Int) + 48271) ^ (17 : Int).toNat % (10 ^ (50 : Int).toNat + 151) = x17 at x0 ⊢
        have k3 : Kp t H (upd (upd (upd H q (.tup [.int z, .int ((p : Int) + 1)])) t (.dK (tpd c ((p : Int) + 1) l))) t (.dK (tpd c ((p : Int) + 1) x17))) := ((Kp.of ht s1).trans (kp_put ht1)).trans (kp_put ht2)
        have hc3 := k3.at hc (fun _ z => by cases z)
        refine ⟨.int z, rfl, 10, 18, rfl, rfl, ⟨by decide, by decide, by decide⟩, z, _, rfl, rfl, _, rfl, ite2 (fun e2 => ?_) (fun e2 => ?_)⟩
        · refine ⟨.int p, rfl, _, rfl, _, _, rfl, rfl, _, rfl, ite2 (fun e3 => ?_) (fun e3 => ?_)⟩
          · have hz : (0 : Int) ≤ z - 10 ^ (18 : Int).toNat := by
              have e4 : (10 : Int) ^ (18 : Int).toNat ≤ z := of_decide_eq_true e2
              omega
            refine ⟨.int z, rfl, 10, 18, rfl, rfl, ⟨by decide, by decide, by decide⟩, z, _, rfl, rfl, .ref t, rfl, t, _, rfl, p_left (z - 10 ^ (18 : Int).toNat) upd_same, ?_⟩
            exact ⟨_, _, _, rfl, k3.trans (kp_put upd_same), tape_put (p := p + 1) upd_same hc3 c0 c63 (by omega) hz⟩
          · exact ⟨_, _, _, rfl, k3, ⟨cells, p + 1, x17, upd_same, hc3, c0, c63, by omega, x0⟩⟩
        · exact ⟨_, _, _, rfl, k3, ⟨cells, p + 1, x17, upd_same, hc3, c0, c63, by omega, x0⟩⟩
      · exact ⟨none, none, none, rfl, Kp.refl T, T.mono (Nat.le_succ n)⟩
    · rintro σ' H' ⟨y2, y3, y4, rfl, k1, T1⟩
      obtain ⟨cells, p, l, ht, hc, c0, c63, hp, l0⟩ := T1.ex
      refine ⟨.ref t, rfl, t, .int l, rfl, g_left ht, .int m, rfl, l, m, rfl, rfl, m0, .ref t, rfl, t, .int l, rfl, g_left ht, .int m, rfl, l, m, rfl, rfl, ⟨m0, m1⟩, by show 2 ≤ sizeLine; decide, fun q hq => ?_⟩
      have s1 : Same H' (upd H' q (.tup [.int (l % m), .int (l / m)])) := same_upd hq
      have ht1 := s1 _ _ ht
      refine ⟨q, _, rfl, SqT.of upd_same, rfl, _, _, rfl, _, _, rfl, .ref t, rfl, t, _, rfl, p_left (l / m) ht1, rfl, ?_⟩
      refine ⟨_, rfl, k _ _ ((k1.trans (T1.kp s1)).trans (kp_put ht1)) (tape_put ht1 (s1 _ _ hc) c0 c63 hp (Int.ediv_nonneg l0 (by omega))) (Int.emod_nonneg _ (by omega)) (Int.emod_lt_of_pos _ m0)⟩
theorem at_cp {α : Type} {xs : List α} {z : Int} {j : Nat} {v : α} (e : z = (j : Int)) (h : xs[j]? = some v) : atI xs z = some v := by
  rw [e]
  exact atI_nat h
theorem scPick : FnScope ["_law_tape", "_law_items"] ["_law_tape", "_law_items"] (defScope sPick) := ⟨rfl, rfl, rfl, by decide +kernel, rfl, by decide +kernel, by decide +kernel⟩
theorem ok_pick (D : Df K mg "_law_pick" sPick ["_law_tape", "_law_items"]) (Dd : Df K mg "_law_draw" sDraw ["_law_tape", "_law_many"]) (ml : mg "len" = none) : FnOk P w K mg base CX0 2 D.f D.fd ["_law_tape", "_law_items"] (spPick K) := by
  have Gd : FnOk P w K mg base CX0 1 Dd.f Dd.fd ["_law_tape", "_law_many"] spDraw := ok_draw Dd ml
  refine D.F.ok scPick (fun vs H Q E h => ?_) (fun cdv A outer s H vs Q E hr h => ?_)
  · obtain ⟨t, c, n, x, rfl, _⟩ := h
    rfl
  · obtain ⟨t, c, n, x, rfl, T, hn, h⟩ := h
    rcases h with ⟨a, xs, rfl, hx, ne, hl, k⟩ | ⟨z, rfl, ne, hl, k⟩
    · refine ⟨_, pss_one (ps_ret (pe_ix ix_list (pv 1) (pe_call Gd hr (by rfl) Dd.g Dd.F.kp Dd.b .nil pass0 (pa_cons (pv 0) (pa_cons (pe_callB call_len_seq (by rfl) ml PySem.boot_len (pa_cons (pv 1) pa_nil)) pa_nil))) (fun _ _ => rfl))), ?_⟩
      have l0 : 0 < xs.length := List.length_pos_iff.mpr ne
      refine ⟨.ref a, rfl, .ref t, rfl, .ref a, rfl, a, xs, rfl, .inl hx, t, c, _, n, rfl, T, hn, by omega, by omega, fun H' r k1 T1 r0 r1 => ?_⟩
      have rl : r.toNat < xs.length := by omega
      refine ⟨a, xs, r, xs[r.toNat], rfl, rfl, k1.lst hx, at_of (j := r.toNat) (by omega) (List.getElem?_eq_getElem rl), k H' _ k1 T1 (List.getElem_mem rl)⟩
    · refine ⟨_, pss_one (ps_ret (pe_ix ix_str (pv 1) (pe_call Gd hr (by rfl) Dd.g Dd.F.kp Dd.b .nil pass0 (pa_cons (pv 0) (pa_cons (pe_callB call_len_str (by rfl) ml PySem.boot_len (pa_cons (pv 1) pa_nil)) pa_nil))) (fun _ _ => rfl))), ?_⟩
      have zl : z.cps.toList.length = z.length := Array.length_toList
      refine ⟨.str z, rfl, .ref t, rfl, .str z, rfl, z, rfl, ?_, t, c, _, n, rfl, T, hn, by omega, by omega, fun H' r k1 T1 r0 r1 => ?_⟩
      · rw [sizeLine_eq]; omega
      have rl : r.toNat < z.cps.toList.length := by omega
      refine ⟨z, r, z.cps.toList[r.toNat], rfl, rfl, ?_, at_cp (by omega) (List.getElem?_eq_getElem rl), k H' _ k1 T1 (List.getElem_mem rl)⟩
      rw [sizeLine_eq]
      omega
end
end DW
namespace DW
open PySem PySem.Spec PyProof.Rows L2 TL
set_option autoImplicit false
/-! ### texts as lists of codes -/
def one (c : Nat) : Str := ⟨#[c]⟩
theorem tl_one (c : Nat) : tl (one c) = [c] := rfl
theorem tl_inj {x y : Str} (h : tl x = tl y) : x = y := by
  obtain ⟨⟨a⟩⟩ := x
  obtain ⟨⟨b⟩⟩ := y
  have e : a = b := h
  rw [e]
theorem joinL_nil : ∀ l : List (List Nat), joinL [] l = l.flatten
  | [] => rfl
  | [p] => by simp [joinL]
  | p :: q :: r => by
    show p ++ ([] ++ joinL [] (q :: r)) = (p :: q :: r).flatten
    rw [joinL_nil (q :: r)]
    simp
theorem tl_cat (ys : List Str) : tl (Txt.join "" ys) = (ys.map tl).flatten := by
  have e : tl (Str.join "" ys) = joinL (tl "") (ys.map tl) := tl_join "" ys
  rw [join_eq, e, show tl "" = [] from rfl, joinL_nil]
theorem flat_ones (cs : List Nat) : ((cs.map one).map tl).flatten = cs := by
  induction cs with
  | nil => rfl
  | cons c r ih =>
    show [c] ++ ((r.map one).map tl).flatten = c :: r
    rw [ih]
    rfl
theorem lt_ones (x p : Nat) : ltCps (tl (one x)) (tl (one p)) = decide (x < p) := by
  simp [one, ltCps]
theorem sorted_ones : ∀ ys : List Str, (∀ y ∈ ys, ∃ c, y = one c) → ys.Nodup → sortedS ys = true → ∃ cs : List Nat, ys = cs.map one ∧ cs.Pairwise (· < ·)
  | [], _, _, _ => ⟨[], rfl, List.Pairwise.nil⟩
  | [y], h, _, _ => by
    obtain ⟨c, rfl⟩ := h y List.mem_cons_self
    exact ⟨[c], rfl, List.pairwise_singleton _ _⟩
  | y :: z :: r, h, nd, so => by
    obtain ⟨hy, nd'⟩ := List.nodup_cons.mp nd
    obtain ⟨c, rfl⟩ := h y List.mem_cons_self
    obtain ⟨d, rfl⟩ := h z (List.mem_cons_of_mem _ List.mem_cons_self)
    have so' : (!ltCps (tl (one d)) (tl (one c)) && risingS (one d) r) = true := so
    rw [Bool.and_eq_true] at so'
    obtain ⟨cs, e, pw⟩ := sorted_ones (one d :: r) (fun u hu => h u (List.mem_cons_of_mem _ hu)) nd' so'.2
    have lt : c < d := by
      have q := so'.1
      rw [lt_ones] at q
      have n1 : ¬ d < c := by simpa using q
      have n2 : c ≠ d := fun z => hy (by rw [z]; exact List.mem_cons_self)
      omega
    cases cs with
    | nil => cases e
    | cons d' cs =>
      have e1 : one d = one d' := (List.cons.inj e).1
      have e2 : d = d' := by
        have q := congrArg tl e1
        exact (List.cons.inj q).1
      subst e2
      refine ⟨c :: d :: cs, by rw [List.map_cons, ← e], List.pairwise_cons.mpr ⟨fun u hu => ?_, pw⟩⟩
      rcases List.mem_cons.mp hu with q | q
      · omega
      · have := (List.pairwise_cons.mp pw).1 u q
        omega
theorem sum_ones : ∀ ys : List Str, (∀ y ∈ ys, ∃ c, y = one c) → (ys.map (·.length)).sum = ys.length
  | [], _ => rfl
  | y :: r, h => by
    obtain ⟨c, rfl⟩ := h y List.mem_cons_self
    rw [List.map_cons, List.sum_cons, sum_ones r fun u hu => h u (List.mem_cons_of_mem _ hu), List.length_cons]
    show 1 + r.length = r.length + 1
    omega
theorem yes {σ : L2.St} {H : Hp} {F G : Hp → Prop} (h : F H) : tYes σ H (fun b H3 => if b = true then F H3 else G H3) := by
  show (if true = true then F H else G H)
  rw [if_pos rfl]
  exact h
/-- an alphabet -/
def Alph (z : Str) : Prop := (tl z).Pairwise (· < ·) ∧ 1 ≤ (tl z).length ∧ (tl z).length ≤ 3 ∧ ∀ c ∈ tl z, 97 ≤ c ∧ c ≤ 122
def abc : Str := "abcdefghijklmnopqrstuvwxyz"
theorem abc_low : ∀ c ∈ tl abc, 97 ≤ c ∧ c ≤ 122 := by decide +kernel
theorem abc_len : (tl abc).length = 26 := by decide +kernel
theorem al1 : Alph "ab" := by unfold Alph; decide +kernel
theorem al2 : Alph "abc" := by unfold Alph; decide +kernel
theorem al3 : Alph "a" := by unfold Alph; decide +kernel
theorem al4 : Alph "bx" := by unfold Alph; decide +kernel
theorem al5 : Alph "cmz" := by unfold Alph; decide +kernel
theorem alph_of {ds : List Nat} {ls ys : List Str} (h1 : 1 ≤ ds.length) (h3 : ds.length ≤ 3) (low : ∀ c ∈ ds, 97 ≤ c ∧ c ≤ 122) (nd : ls.Nodup) (mem : ∀ k, k ∈ ls ↔ k ∈ ds.map one) (le : ls.length ≤ (ds.map one).length)
    (pm : ys.Perm ls) (so : sortedS ys = true) : Alph (Txt.join "" ys) := by
  have hm : ∀ y ∈ ys, y ∈ ds.map one := fun y hy => (mem y).mp (pm.mem_iff.mp hy)
  obtain ⟨cs, rfl, pw⟩ := sorted_ones ys (fun y hy => by
    obtain ⟨c, _, e⟩ := List.mem_map.mp (hm y hy)
    exact ⟨c, e.symm⟩) (pm.nodup_iff.mpr nd) so
  have e : tl (Txt.join "" (cs.map one)) = cs := by rw [tl_cat, flat_ones]
  have hl : cs.length = ls.length := by
    have q := pm.length_eq
    rw [List.length_map] at q
    exact q
  rw [List.length_map] at le
  unfold Alph
  rw [e]
  refine ⟨pw, ?_, by omega, fun c hc => ?_⟩
  · cases ds with
    | nil => cases h1
    | cons d r =>
      have q : one d ∈ ls := (mem _).mpr List.mem_cons_self
      have q2 : one d ∈ cs.map one := pm.mem_iff.mpr q
      have := List.length_pos_of_mem q2
      rw [List.length_map] at this
      omega
  · obtain ⟨d, hd, e⟩ := List.mem_map.mp (hm (one c) (List.mem_map.mpr ⟨c, hc, rfl⟩))
    have e2 : d = c := by
      have q := congrArg tl e
      exact (List.cons.inj q).1
    rw [← e2]
    exact low d hd
/-! ### what the module's names hold -/
structure Bl (mg : Str → Option Value) : Prop where
  len : mg "len" = none
  range : mg "range" = none
  sorted : mg "sorted" = none
  set : mg "set" = none
def spAlpha : Sp := fun vs H Q _ => ∃ (t c : Addr) (n : Nat), vs = [.ref t] ∧ Tape H t c n ∧ n + 10 < 2 ^ 40 ∧ ∀ H' z, Kp t H H' → Tape H' t c (n + 10) → Alph z → Q (.str z) H'
abbrev DfDraw (K : PySem.W.Frag) (mg : Str → Option Value) := Df K mg "_law_draw" sDraw ["_law_tape", "_law_many"]
abbrev DfPick (K : PySem.W.Frag) (mg : Str → Option Value) := Df K mg "_law_pick" sPick ["_law_tape", "_law_items"]
end DW
namespace DW
open PySem PySem.Spec PyProof.Rows L2 TL
set_option autoImplicit false
section
variable {P : Program} {w : World} {K : PySem.W.Frag} {mg : Str → Option Value} {base : Heap}
theorem scAlpha : FnScope ["_law_tape", "_law_letters", "_law_drawn", "_law_k"] ["_law_tape"] (defScope sAlpha) := ⟨rfl, rfl, rfl, by decide +kernel, rfl, by decide +kernel, by decide +kernel⟩
theorem ok_alpha (D : Df K mg "_law_alphabet" sAlpha ["_law_tape"]) (Dd : DfDraw K mg) (Dp : DfPick K mg) (B : Bl mg) : FnOk P w K mg base CX0 3 D.f D.fd ["_law_tape"] spAlpha := by
  have Gd : FnOk P w K mg base CX0 1 Dd.f Dd.fd ["_law_tape", "_law_many"] spDraw := ok_draw Dd B.len
  have Gp : FnOk P w K mg base CX0 2 Dp.f Dp.fd ["_law_tape", "_law_items"] (spPick K) := ok_pick Dp Dd B.len
  refine D.F.ok scAlpha (fun vs H Q E h => ?_) (fun cdv A outer s H vs Q E hr h => ?_)
  · obtain ⟨t, c, n, rfl, _⟩ := h
    rfl
  · obtain ⟨t, c, n, rfl, T, hn, k⟩ := h
    have hr1 : Room 1 _ := hr.mono (by decide)
    refine ⟨_, pss_cons (ps_set (i := 1) scAlpha.nd rfl (Or.inr rfl) pe_str)
      (pss_cons (ps_setLc (i := 2) (own := [("_law_k", 3)]) (g := gName 3) (tt := tYes) rfl scAlpha.nd rfl rfl (sw_true rfl rfl rfl (by decide +kernel))
        (pi_range1 rfl B.range (pa_cons (pe_op op_add pe_int (pe_call Gd hr1 (by rfl) Dd.g Dd.F.kp Dd.b .nil pass0 (pa_cons (pv 0) (pa_cons pe_int pa_nil)))) pa_nil))
        (blkOk_by (N := ["_law_tape", "_law_letters", "_law_drawn", "_law_k"]) (sc := defScope sAlpha) (by decide +kernel)) (fun _ _ _ _ _ => pg_name (i := 3) scAlpha.nd rfl (Or.inl rfl)) (fun _ _ _ _ _ => pts_nil)
        (fun _ _ _ _ _ => pe_ix ix_str (pv 1) (pe_call Gd hr1 (by rfl) Dd.g Dd.F.kp Dd.b .nil pass0 (pa_cons (pv 0) (pa_cons pe_int pa_nil))) (fun _ _ => rfl)))
      (pss_one (ps_ret (pe_call Gp hr (by rfl) Dp.g Dp.F.kp Dp.b .nil pass0 (pa_cons (pv 0) (pa_cons
        (pe_op op_cat (pe_lst (pa_cons pe_str (pa_cons pe_str (pa_cons pe_str (pa_cons pe_str (pa_cons pe_str pa_nil))))))
          (pe_op op_rep (pe_lst (pa_cons (pe_join pe_str (pe_callB (TX.cr_sortTx rfl) (by rfl) B.sorted (by decide +kernel) (pa_cons (pe_callTy (TX.cr_setL rfl) (by rfl) B.set (by decide +kernel) (pa_cons (pv 2) pa_nil)) pa_nil))) pa_nil)) pe_int)) pa_nil)))))), ?_⟩
    refine ⟨.ref t, rfl, t, c, 3, n, rfl, T, by omega, by decide, by decide, fun H1 r k1 T1 r0 r1 => ?_⟩
    refine ⟨1, r, rfl, rfl, 1 + r, rfl, by omega, by omega, fun D hD => ?_⟩
    have D1 := T1.ne1 hD
    have D2 := T1.ne2 hD
    have D0 := k1.gone hD
    refine lc_range (lo := 0) (n := (1 + r).toNat) (fun i H' => ∃ ds : List Nat, ds.length = i ∧ (∀ c ∈ ds, 97 ≤ c ∧ c ≤ 122) ∧ H' D = some (.lst ((ds.map one).map V.str)) ∧ Kp t H H' ∧ Tape H' t c (n + 1 + i)) ?_ ?_ ?_
    · exact ⟨[], rfl, fun c hc => (nomatch hc), upd_same, k1.put D0 D1, T1.upd D1 D2⟩
    · rintro i G hi ⟨ds, dl, low, gD, kG, TG⟩
      refine ⟨rfl, yes ?_⟩
      refine ⟨.str abc, rfl, .ref t, rfl, t, c, 26, n + 1 + i, rfl, TG, by omega, by decide, by decide, fun H4 q k4 T4 q0 q1 => ?_⟩
      have ql : q.toNat < (tl abc).length := by
        rw [abc_len]
        omega
      have gD4 := k4.at gD (fun _ z => by cases z)
      refine ⟨abc, q, (tl abc)[q.toNat], rfl, rfl, by decide +kernel, at_cp (j := q.toNat) (by omega) (List.getElem?_eq_getElem ql), _, gD4, ?_, ?_⟩
      · rw [List.length_map, List.length_map, dl, sizeLine_eq]
        omega
      · refine ⟨ds ++ [(tl abc)[q.toNat]], by rw [List.length_append, dl]; rfl, fun c hc => ?_, ?_, ?_, ?_⟩
        · rcases List.mem_append.mp hc with z | z
          · exact low c z
          · rw [List.mem_singleton.mp z]
            exact abc_low _ (List.getElem_mem ql)
        · rw [upd_same, List.map_append, List.map_append]
          rfl
        · exact (kG.trans k4).put D0 D1
        · exact T4.upd D1 D2
    · rintro G ⟨ds, dl, low, gD, kG, TG⟩
      refine ⟨.ref t, rfl, by show 5 ≤ sizeLine; decide, fun l1 e1 => ?_⟩
      have s1 := same_upd (o := .lst [V.str "ab", V.str "abc", V.str "a", V.str "bx", V.str "cmz"]) e1
      refine ⟨⟨_, rfl⟩, .ref D, rfl, D, ds.map one, rfl, SqL.of (s1 _ _ gD), ?_, fun a ls ea nd mem le => ?_⟩
      · rw [List.length_map, dl]
        unfold scanBound
        omega
      have s2 := same_upd (o := TX.SetTx P w a ls) ea
      refine ⟨a, ls, rfl, upd_same, ?_, fun ys p pm so ep => ?_⟩
      · rw [List.length_map] at le
        omega
      have al := alph_of (by omega) (by omega) low nd mem le pm so
      have s3 := same_upd (o := .lst (ys.map V.str)) ep
      refine ⟨"", p, ys, rfl, rfl, .inl (SqL.of upd_same), ?_, by show 1 ≤ sizeLine; decide, fun l2 e2 => ?_⟩
      · rw [sum_ones ys fun y hy => ?_]
        · rw [pm.length_eq]
          rw [List.length_map] at le
          show ls.length + ls.length * 0 ≤ 16777216
          omega
        · obtain ⟨u, _, e⟩ := List.mem_map.mp ((mem y).mp (pm.mem_iff.mp hy))
          exact ⟨u, e.symm⟩
      have s4 := same_upd (o := .lst [V.str (Txt.join "" ys)]) e2
      refine ⟨l2, 5, _, rfl, rfl, upd_same, by decide, by decide, by show 1 * 5 ≤ sizeLine; decide, fun l3 e3 => ?_⟩
      have s5 := same_upd (o := .lst (List.replicate (5 : Int).toNat [V.str (Txt.join "" ys)]).flatten) e3
      refine ⟨l1, l3, _, _, rfl, rfl, s5 _ _ (s4 _ _ (s3 _ _ (s2 _ _ upd_same))), upd_same, by show 5 + 5 ≤ sizeLine; decide, fun l4 e4 => ?_⟩
      have s6 := same_upd (o := .lst ([V.str "ab", V.str "abc", V.str "a", V.str "bx", V.str "cmz"] ++ (List.replicate (5 : Int).toNat [V.str (Txt.join "" ys)]).flatten)) e4
      have sa := ((((s1.trans s2).trans s3).trans s4).trans s5).trans s6
      refine ⟨t, c, n + 1 + (1 + r).toNat, .ref l4, rfl, TG.same sa, by omega, .inl ⟨l4, _, rfl, SqL.of upd_same, by simp, by show 10 < 2 ^ 30; decide, fun H' y k' T' hy => ?_⟩⟩
      have hy' : ∃ z, y = V.str z ∧ Alph z := by
        rcases List.mem_append.mp hy with q | q
        · simp only [List.mem_cons, List.not_mem_nil, or_false] at q
          rcases q with q | q | q | q | q
          · exact ⟨_, q, al1⟩
          · exact ⟨_, q, al2⟩
          · exact ⟨_, q, al3⟩
          · exact ⟨_, q, al4⟩
          · exact ⟨_, q, al5⟩
        · obtain ⟨u, hu, hy⟩ := List.mem_flatten.mp q
          rw [List.eq_of_mem_replicate hu] at hy
          exact ⟨_, List.mem_singleton.mp hy, al⟩
      obtain ⟨z, rfl, az⟩ := hy'
      exact k H' z ((kG.trans (TG.kp sa)).trans k') (T'.mono (by omega)) az
end
end DW
namespace DW
open PySem PySem.Spec PyProof.Rows L2 TL
set_option autoImplicit false
/-! ### text * int, repr(text) -/
theorem foldl_app : ∀ (l : List (Array Nat)) (acc : Array Nat), (l.foldl (· ++ ·) acc).toList = acc.toList ++ (l.map Array.toList).flatten
  | [], acc => by simp
  | a :: r, acc => by
    rw [List.foldl_cons, foldl_app r, Array.toList_append, List.map_cons, List.flatten_cons, List.append_assoc]
theorem tl_mul (z : Str) (k : Int) : tl (Txt.mul z k) = (List.replicate k.toNat (tl z)).flatten := by
  unfold Txt.mul
  by_cases h : k < 1
  · rw [if_pos h, show k.toNat = 0 by omega]
    rfl
  · rw [if_neg h]
    by_cases h2 : (k == 1 || z.length == 0) = true
    · rw [if_pos h2]
      rw [Bool.or_eq_true] at h2
      rcases h2 with e | e
      · rw [eq_of_beq e]
        simp
      · have e0 : tl z = [] := List.length_eq_zero_iff.mp (by rw [Array.length_toList]; exact eq_of_beq e)
        rw [e0]
        simp
    · rw [if_neg h2]
      show ((List.replicate k.toNat z.cps).foldl (· ++ ·) #[]).toList = _
      rw [foldl_app, List.map_replicate]
      simp
section
variable {X : Cx}
def rRepS : R2 := fun x y H Q => ∃ (z : Str) (k : Int), x = .str z ∧ y = .int k ∧ 0 ≤ k ∧ k ≤ 1000 ∧ z.length ≤ 1000 ∧ ∀ r : Str, tl r = (List.replicate k.toNat (tl z)).flatten → Q (.str r) H
theorem op_repS : OpR X (binaryOp .Mult) rRepS := by
  intro pins s σ H x y v u Q I rx ry h
  obtain ⟨z, k, rfl, rfl, k0, k1, zl, q⟩ := h
  obtain ⟨t, rfl⟩ := rx
  obtain ⟨t2, rfl⟩ := ry
  have pr : z.length * k.toNat ≤ 1000 * 1000 := Nat.mul_le_mul zl (by omega)
  refine SB.mul ⟨?_, fun h1 _ h3 => ?_, fun _ _ => ?_⟩ fun t' tk => ⟨.str (Txt.mul z k), H, I.tok _, ⟨_, rfl⟩, q _ (tl_mul z k)⟩
  · have a : ¬ k < -(2 ^ 63) := by omega
    have b : ¬ k ≥ 2 ^ 63 := by omega
    simp [a, b]
    omega
  · have e : (z.length : Int) ≤ (2 ^ 63 - 1) / k := by
      rw [Int.le_ediv_iff_mul_le (by omega)]
      have : ((z.length * k.toNat : Nat) : Int) ≤ 1000 * 1000 := by exact_mod_cast pr
      rw [Int.natCast_mul, Int.toNat_of_nonneg k0] at this
      omega
    omega
  · unfold Builtin.Str.tooLong
    rw [sizeLine_eq]
    simp
    omega
theorem cr_reprS : CallR X (.builtin "repr") (fun xs H Q => ∃ y : Str, xs = [.str y] ∧ (reprText y).length ≤ sizeLine ∧ Q (.str (reprText y)) H) := by
  intro pins s σ H xs us Q I r h
  obtain ⟨y, rfl, hz, q⟩ := h
  obtain ⟨u, rfl, t, rfl⟩ := vals1 r
  exact PySem.P.repr_of_str ⟨.str _, H, I.tok _, ⟨_, rfl⟩, q⟩ hz
end
theorem rc_le : ∀ c, c < 128 → (Builtin.Str.reprChar 34 c).length ≤ 4 ∧ (Builtin.Str.reprChar 39 c).length ≤ 4 := by decide +kernel
theorem rq (x : Str) : reprQuote x = 34 ∨ reprQuote x = 39 := by
  unfold reprQuote
  split
  · exact .inl rfl
  · exact .inr rfl
theorem repr_fold (q : Nat) (hq : q = 34 ∨ q = 39) : ∀ (l : List Nat) (n : Nat), (∀ c ∈ l, c < 128) → l.foldl (fun n c => n + (Builtin.Str.reprChar q c).length) n ≤ n + 4 * l.length
  | [], n, _ => by simp
  | c :: r, n, h => by
    have h1 := rc_le c (h c List.mem_cons_self)
    have h2 : (Builtin.Str.reprChar q c).length ≤ 4 := by
      rcases hq with e | e
      · rw [e]; exact h1.1
      · rw [e]; exact h1.2
    have ih := repr_fold q hq r (n + (Builtin.Str.reprChar q c).length) fun d hd => h d (List.mem_cons_of_mem _ hd)
    rw [List.foldl_cons, List.length_cons]
    omega
theorem repr_le {x : Str} (h : ∀ c ∈ tl x, c < 128) : (reprText x).length ≤ 2 + 4 * (tl x).length := by
  rw [← reprLen_eq, ← Array.foldl_toList]
  exact repr_fold _ (rq x) _ _ h
/-! ### factors, products -/
abbrev Fc := Bool × Str
def kd (b : Bool) : Str := if b then "star" else "opt"
def IsF (K : PySem.W.Frag) (H : Hp) (v : V) (f : Fc) : Prop := ∃ a, v = .ref a ∧ SqT K H a [.str (kd f.1), .str f.2]
def FOk (z : Str) (f : Fc) : Prop := tl f.2 ≠ [] ∧ (tl f.2).Sublist (tl z) ∧ (f.1 = false → (tl f.2).length = 1)
inductive IsFs (K : PySem.W.Frag) (H : Hp) : List V → List Fc → Prop where
  | nil : IsFs K H [] []
  | cons {v : V} {f : Fc} {vs : List V} {fs : List Fc} (h : IsF K H v f) (r : IsFs K H vs fs) : IsFs K H (v :: vs) (f :: fs)
theorem IsFs.snoc {K : PySem.W.Frag} {H : Hp} {v : V} {f : Fc} : ∀ {vs : List V} {fs : List Fc}, IsFs K H vs fs → IsF K H v f → IsFs K H (vs ++ [v]) (fs ++ [f])
  | _, _, .nil, h => .cons h .nil
  | _, _, .cons a r, h => .cons a (r.snoc h)
theorem IsFs.len {K : PySem.W.Frag} {H : Hp} : ∀ {vs : List V} {fs : List Fc}, IsFs K H vs fs → vs.length = fs.length
  | _, _, .nil => rfl
  | _, _, .cons _ r => by rw [List.length_cons, List.length_cons, r.len]
theorem IsFs.get {K : PySem.W.Frag} {H : Hp} : ∀ {vs : List V} {fs : List Fc}, IsFs K H vs fs → ∀ (i : Nat) (v : V), vs[i]? = some v → ∃ f, fs[i]? = some f ∧ IsF K H v f
  | _, _, .nil, i, v, h => by simp at h
  | _, _, .cons a r, 0, v, h => by
    have e := Option.some.inj h
    subst e
    exact ⟨_, rfl, a⟩
  | _, _, .cons a r, i + 1, v, h => r.get i v h
theorem IsF.mono {K : PySem.W.Frag} {H H' : Hp} {v : V} {f : Fc} (h : IsF K H v f) (m : ∀ b xs, SqT K H b xs → SqT K H' b xs) : IsF K H' v f := by
  obtain ⟨a, e, q⟩ := h
  exact ⟨a, e, m _ _ q⟩
theorem IsFs.mono {K : PySem.W.Frag} {H H' : Hp} (m : ∀ b xs, SqT K H b xs → SqT K H' b xs) : ∀ {vs : List V} {fs : List Fc}, IsFs K H vs fs → IsFs K H' vs fs
  | _, _, .nil => .nil
  | _, _, .cons a r => .cons (a.mono m) (r.mono m)
theorem same_tup {H H' : Hp} {K : PySem.W.Frag} (s : Same H H') (b : Addr) (xs : List V) (h : SqT K H b xs) : SqT K H' b xs := by
  rcases h with (h | ⟨o, h⟩) | h
  · exact .inl (.inl (s _ _ h))
  · exact .inl (.inr ⟨o, s _ _ h⟩)
  · exact .inr h
theorem kp_tup {t : Addr} {H H' : Hp} {K : PySem.W.Frag} (k : Kp t H H') (b : Addr) (xs : List V) (h : SqT K H b xs) : SqT K H' b xs := k.tup h
/-- a store at what is no tuple -/
theorem upd_tup {H : Hp} {D : Addr} {xs0 : List V} {o : HO} {K : PySem.W.Frag} (hD : H D = some (.lst xs0)) (b : Addr) (xs : List V) (h : SqT K H b xs) : SqT K (upd H D o) b xs := by
  rcases h with (h | ⟨u, h⟩) | h
  · exact .inl (.inl ((upd_ne (ne_of h hD (by intro z; cases z))).trans h))
  · exact .inl (.inr ⟨u, (upd_ne (ne_of h hD (by intro z; cases z))).trans h⟩)
  · exact .inr h
def IsP (K : PySem.W.Frag) (H : Hp) (v : V) (fs : List Fc) : Prop := ∃ a xs, v = .ref a ∧ SqT K H a xs ∧ IsFs K H xs fs
theorem IsP.mono {K : PySem.W.Frag} {H H' : Hp} {v : V} {fs : List Fc} (h : IsP K H v fs) (m : ∀ b xs, SqT K H b xs → SqT K H' b xs) : IsP K H' v fs := by
  obtain ⟨a, xs, e, q, r⟩ := h
  exact ⟨a, xs, e, m _ _ q, r.mono m⟩
def spFactor (K : PySem.W.Frag) : Sp := fun vs H Q _ => ∃ (t c : Addr) (n : Nat) (z : Str), vs = [.ref t, .str z] ∧ Tape H t c n ∧ n + 10 < 2 ^ 40 ∧ Alph z ∧ ∀ H' v f, Kp t H H' → Tape H' t c (n + 10) → IsF K H' v f → FOk z f → Q v H'
def spProduct (K : PySem.W.Frag) : Sp := fun vs H Q _ => ∃ (t c : Addr) (n : Nat) (z : Str) (m : Int), vs = [.ref t, .str z, .int m] ∧ Tape H t c n ∧ n + 1000 < 2 ^ 40 ∧ Alph z ∧ 0 ≤ m ∧ m ≤ 50 ∧
  ∀ H' v fs, Kp t H H' → Tape H' t c (n + 1000) → IsP K H' v fs → (∀ f ∈ fs, FOk z f) → (fs.length : Int) ≤ m → Q v H'
section
variable {P : Program} {w : World} {K : PySem.W.Frag} {mg : Str → Option Value} {base : Heap}
theorem scFactor : FnScope ["_law_tape", "_law_alphabet_here", "_law_letters", "_law_letter"] ["_law_tape", "_law_alphabet_here"] (defScope sFactor) := ⟨rfl, rfl, rfl, by decide +kernel, rfl, by decide +kernel, by decide +kernel⟩
theorem ok_factor (D : Df K mg "_law_factor" sFactor ["_law_tape", "_law_alphabet_here"]) (Dd : DfDraw K mg) (Dp : DfPick K mg) (B : Bl mg) : FnOk P w K mg base CX0 3 D.f D.fd ["_law_tape", "_law_alphabet_here"] (spFactor K) := by
  have Gd : FnOk P w K mg base CX0 1 Dd.f Dd.fd ["_law_tape", "_law_many"] spDraw := ok_draw Dd B.len
  have Gp : FnOk P w K mg base CX0 2 Dp.f Dp.fd ["_law_tape", "_law_items"] (spPick K) := ok_pick Dp Dd B.len
  refine D.F.ok scFactor (fun vs H Q E h => ?_) (fun cdv A outer s H vs Q E hr h => ?_)
  · obtain ⟨t, c, n, z, rfl, _⟩ := h
    rfl
  · obtain ⟨t, c, n, z, rfl, T, hn, al, k⟩ := h
    have hr1 : Room 1 _ := hr.mono (by decide)
    have zl : z.length = (tl z).length := (Array.length_toList).symm
    obtain ⟨pw, l1, l3, low⟩ := al
    refine ⟨_, pss_cons (ps_if (pt_cmpR op_gt (pe_call Gd hr1 (by rfl) Dd.g Dd.F.kp Dd.b .nil pass0 (pa_cons (pv 0) (pa_cons pe_int pa_nil))) pe_int (nomark _))
        (pss_one (ps_ret (pe_tup (pa_cons pe_str (pa_cons (pe_call Gp hr (by rfl) Dp.g Dp.F.kp Dp.b .nil pass0 (pa_cons (pv 0) (pa_cons (pv 1) pa_nil))) pa_nil))))) pss_nil)
      (pss_cons (ps_set (i := 2) scFactor.nd rfl (Or.inl rfl) (pe_join pe_str (pe_lc (own := [("_law_letter", 3)]) (g := gName 3) rfl scFactor.nd (pi_str (pv 1))
          (blkOk_by (N := ["_law_tape", "_law_alphabet_here", "_law_letters", "_law_letter"]) (sc := defScope sFactor) (by decide +kernel)) (fun _ _ _ _ _ => pg_name (i := 3) scFactor.nd rfl (Or.inl rfl))
          (fun _ _ _ _ _ => pts_one (pt_cmpR op_eq (pe_call Gd hr1 (by rfl) Dd.g Dd.F.kp Dd.b .nil pass0 (pa_cons (pv 0) (pa_cons pe_int pa_nil))) pe_int (nomark _))) (fun _ _ _ _ _ => pv 3))))
      (pss_one (ps_ret (pe_tup (pa_cons pe_str (pa_cons (pe_ifExp (pt_cmpR op_ne (pv 2) pe_str (nomark _)) (pv 2) (pe_call Gp hr (by rfl) Dp.g Dp.F.kp Dp.b .nil pass0 (pa_cons (pv 0) (pa_cons (pv 1) pa_nil)))) pa_nil)))))), ?_⟩
    refine ⟨.ref t, rfl, t, c, 3, n, rfl, T, by omega, by decide, by decide, fun H1 r k1 T1 r0 r1 => ?_⟩
    refine ⟨r, 0, rfl, rfl, _, rfl, ite2 (fun e => ?_) (fun e => ?_)⟩
    · refine ⟨.ref t, rfl, .str z, rfl, t, c, n + 1, .str z, rfl, T1, by omega, .inr ⟨z, rfl, by omega, by omega, fun H2 d k2 T2 hd => ?_⟩⟩
      refine ⟨by show 2 ≤ sizeLine; decide, fun p hp => ?_⟩
      have s3 := same_upd (o := .tup [.str "opt", .str ⟨#[d]⟩]) hp
      exact k _ _ (false, one d) ((k1.trans k2).trans (T2.kp s3)) ((T2.same s3).mono (by omega)) ⟨p, rfl, SqT.of upd_same⟩ ⟨by simp [one], by show [d].Sublist _; exact List.singleton_sublist.mpr hd, fun _ => rfl⟩
    · refine ⟨⟨_, rfl⟩, .str z, rfl, z, rfl, fun D hD => ?_⟩
      have D1 := T1.ne1 hD
      have D2 := T1.ne2 hD
      have D0 := k1.gone hD
      have zs : z.cps.size = (tl z).length := (Array.length_toList).symm
      refine lc_it walk_str (fun i H' => ∃ ds : List Nat, ds.Sublist ((tl z).take i) ∧ H' D = some (.lst ((ds.map one).map V.str)) ∧ Kp t H H' ∧ Tape H' t c (n + 1 + i)) ?_ (fun _ _ _ _ => trivial) ?_ ?_
      · exact ⟨[], List.nil_sublist _, upd_same, k1.put D0 D1, T1.upd D1 D2⟩
      · rintro i x G G' hi ⟨ds, sub, gD, kG, TG⟩ ⟨rfl, d, hd, rfl⟩
        have hd' : (tl z)[i]? = some d := by rw [Array.getElem?_toList]; exact hd
        have tk : (tl z).take (i + 1) = (tl z).take i ++ [d] := by rw [List.take_add_one, hd'] <;> rfl
        have dl : ds.length ≤ 3 := Nat.le_trans (Nat.le_trans sub.length_le (List.length_take_le' ..)) l3
        refine ⟨rfl, .ref t, rfl, t, c, 2, n + 1 + i, rfl, TG, by omega, by decide, by decide, fun H4 q k4 T4 q0 q1 => ?_⟩
        have gD4 := k4.at gD (fun _ z => by cases z)
        refine ⟨rfl, _, rfl, ite2 (fun e2 => ?_) (fun e2 => ?_)⟩
        · refine ⟨_, rfl, _, gD4, ?_, ds ++ [d], ?_, ?_, (kG.trans k4).put D0 D1, T4.upd D1 D2⟩
          · rw [List.length_map, List.length_map, sizeLine_eq]
            omega
          · rw [tk]
            exact sub.append (List.Sublist.refl _)
          · rw [upd_same, List.map_append, List.map_append]
            rfl
        · refine ⟨ds, ?_, gD4, kG.trans k4, T4⟩
          rw [tk]
          exact sub.trans (List.sublist_append_left _ _)
      · rintro G ⟨ds, sub, gD, kG, TG⟩
        have sub' : ds.Sublist (tl z) := sub.trans (List.take_sublist _ _)
        have dl : ds.length ≤ 3 := Nat.le_trans sub'.length_le l3
        refine ⟨"", D, ds.map one, rfl, rfl, .inl (SqL.of gD), ?_, ?_⟩
        · rw [sum_ones _ fun y hy => ?_, List.length_map]
          · show ds.length + ds.length * 0 ≤ 16777216
            omega
          · obtain ⟨u, _, e⟩ := List.mem_map.mp hy
            exact ⟨u, e.symm⟩
        have ej : tl (Txt.join "" (ds.map one)) = ds := by rw [tl_cat, flat_ones]
        refine ⟨.str (Txt.join "" (ds.map one)), rfl, rfl, _, rfl, ite2 (fun e2 => ?_) (fun e2 => ?_)⟩
        · refine ⟨_, rfl, by show 2 ≤ sizeLine; decide, fun p hp => ?_⟩
          have s3 := same_upd (o := .tup [.str "star", .str (Txt.join "" (ds.map one))]) hp
          refine k _ _ (true, Txt.join "" (ds.map one)) (kG.trans (TG.kp s3)) ((TG.same s3).mono (by omega)) ⟨p, rfl, SqT.of upd_same⟩ ⟨?_, by rw [ej]; exact sub', fun z => by cases z⟩
          intro z0
          have e3 : Txt.join "" (ds.map one) = ("" : Str) := tl_inj z0
          rw [e3] at e2
          exact absurd e2 (by decide +kernel)
        · refine ⟨.ref t, rfl, .str z, rfl, t, c, n + 1 + z.cps.size, .str z, rfl, TG, by omega, .inr ⟨z, rfl, by omega, by omega, fun H2 d k2 T2 hd => ?_⟩⟩
          refine ⟨by show 2 ≤ sizeLine; decide, fun p hp => ?_⟩
          have s3 := same_upd (o := .tup [.str "star", .str ⟨#[d]⟩]) hp
          exact k _ _ (true, one d) ((kG.trans k2).trans (T2.kp s3)) ((T2.same s3).mono (by omega)) ⟨p, rfl, SqT.of upd_same⟩ ⟨by simp [one], by show [d].Sublist _; exact List.singleton_sublist.mpr hd, fun z => by cases z⟩
theorem scProduct : FnScope ["_law_tape", "_law_alphabet_here", "_law_longest", "_law_k"] ["_law_tape", "_law_alphabet_here", "_law_longest"] (defScope sProduct) := ⟨rfl, rfl, rfl, by decide +kernel, rfl, by decide +kernel, by decide +kernel⟩
theorem ok_product (D : Df K mg "_law_product" sProduct ["_law_tape", "_law_alphabet_here", "_law_longest"]) (Df0 : Df K mg "_law_factor" sFactor ["_law_tape", "_law_alphabet_here"]) (Dd : DfDraw K mg) (Dp : DfPick K mg) (B : Bl mg) (mt : mg "tuple" = none) :
    FnOk P w K mg base CX0 4 D.f D.fd ["_law_tape", "_law_alphabet_here", "_law_longest"] (spProduct K) := by
  have Gd : FnOk P w K mg base CX0 1 Dd.f Dd.fd ["_law_tape", "_law_many"] spDraw := ok_draw Dd B.len
  have Gf : FnOk P w K mg base CX0 3 Df0.f Df0.fd ["_law_tape", "_law_alphabet_here"] (spFactor K) := ok_factor Df0 Dd Dp B
  refine D.F.ok scProduct (fun vs H Q E h => ?_) (fun cdv A outer s H vs Q E hr h => ?_)
  · obtain ⟨t, c, n, z, m, rfl, _⟩ := h
    rfl
  · obtain ⟨t, c, n, z, m, rfl, T, hn, al, m0, m1, k⟩ := h
    have hr1 : Room 1 _ := hr.mono (by decide)
    refine ⟨_, pss_one (ps_ret (pe_callTy call_tuple_of (by rfl) mt (by decide +kernel) (pa_cons (pe_lc (own := [("_law_k", 3)]) (g := gName 3) rfl scProduct.nd
        (pi_range1 rfl B.range (pa_cons (pe_call Gd hr1 (by rfl) Dd.g Dd.F.kp Dd.b .nil pass0 (pa_cons (pv 0) (pa_cons (pe_op op_add (pv 2) pe_int) pa_nil))) pa_nil))
        (blkOk_by (N := ["_law_tape", "_law_alphabet_here", "_law_longest", "_law_k"]) (sc := defScope sProduct) (by decide +kernel)) (fun _ _ _ _ _ => pg_name (i := 3) scProduct.nd rfl (Or.inl rfl)) (fun _ _ _ _ _ => pts_nil)
        (fun _ _ _ _ _ => pe_call Gf hr (by rfl) Df0.g Df0.F.kp Df0.b .nil pass0 (pa_cons (pv 0) (pa_cons (pv 1) pa_nil)))) pa_nil))), ?_⟩
    refine ⟨.ref t, rfl, .int m, rfl, m, 1, rfl, rfl, t, c, m + 1, n, rfl, T, by omega, by omega, by omega, fun H1 r k1 T1 r0 r1 => ?_⟩
    refine ⟨r, rfl, by omega, by omega, fun D hD => ?_⟩
    have D1 := T1.ne1 hD
    have D2 := T1.ne2 hD
    have D0 := k1.gone hD
    refine lc_range (lo := 0) (n := r.toNat) (fun i H' => ∃ (xs : List V) (fs : List Fc), fs.length = i ∧ H' D = some (.lst xs) ∧ IsFs K H' xs fs ∧ (∀ f ∈ fs, FOk z f) ∧ Kp t H H' ∧ Tape H' t c (n + 1 + 10 * i)) ?_ ?_ ?_
    · exact ⟨[], [], rfl, upd_same, .nil, fun f hf => (nomatch hf), k1.put D0 D1, T1.upd D1 D2⟩
    · rintro i G hi ⟨xs, fs, fl, gD, iF, ok, kG, TG⟩
      refine ⟨rfl, yes ?_⟩
      refine ⟨.ref t, rfl, .str z, rfl, t, c, n + 1 + 10 * i, z, rfl, TG, by omega, al, fun H4 v f k4 T4 isf fok => ?_⟩
      have gD4 := k4.at gD (fun _ z => by cases z)
      have iF4 := iF.mono (kp_tup k4)
      refine ⟨xs, gD4, ?_, xs ++ [v], fs ++ [f], by rw [List.length_append, fl]; rfl, upd_same, (iF4.snoc isf).mono (upd_tup gD4), fun g hg => ?_, (kG.trans k4).put D0 D1, (T4.upd D1 D2).mono (by omega)⟩
      · rw [iF.len, fl, sizeLine_eq]
        omega
      · rcases List.mem_append.mp hg with q | q
        · exact ok g q
        · rw [List.mem_singleton.mp q]
          exact fok
    · rintro G ⟨xs, fs, fl, gD, iF, ok, kG, TG⟩
      refine ⟨D, xs, rfl, .inl ⟨SqL.of gD, fun p hp => ?_⟩⟩
      have s3 := same_upd (o := .tup xs) hp
      exact k _ _ fs (kG.trans (TG.kp s3)) ((TG.same s3).mono (by omega)) ⟨p, xs, rfl, SqT.of upd_same, iF.mono (same_tup s3)⟩ ok (by omega)
end
end DW
namespace DW
open PySem PySem.Spec PyProof.Rows L2 TL
set_option autoImplicit false
/-! ### unfoldings -/
theorem upd_upd2 {H : Hp} {d : Addr} {o u : HO} : upd (upd H d o) d u = upd H d u := by
  funext b
  by_cases e : b = d
  · rw [e, upd_same, upd_same]
  · rw [upd_ne e, upd_ne e, upd_ne e]
def piece (m : Nat) (f : Fc) : List Nat := if f.1 = true then (List.replicate m (tl f.2)).flatten else tl f.2
def unf (fs : List Fc) (m : Nat) : List Nat := (fs.map (piece m)).flatten
theorem piece_len {m : Nat} {f : Fc} (hm : m ≤ 1000) (h : (tl f.2).length ≤ 3) : (piece m f).length ≤ 3000 := by
  unfold piece
  by_cases e : f.1 = true
  · rw [if_pos e, List.length_flatten, List.map_replicate, List.sum_replicate_nat]
    have := Nat.mul_le_mul hm h
    omega
  · rw [if_neg e]
    omega
theorem unf_len {m : Nat} (hm : m ≤ 1000) : ∀ fs : List Fc, (∀ f ∈ fs, (tl f.2).length ≤ 3) → (unf fs m).length ≤ 3000 * fs.length
  | [], _ => Nat.le_refl _
  | f :: r, h => by
    have ih := unf_len hm r fun g hg => h g (List.mem_cons_of_mem _ hg)
    have h1 := piece_len hm (h f List.mem_cons_self)
    have e : (unf (f :: r) m).length = (piece m f).length + (unf r m).length := by
      unfold unf
      rw [List.map_cons, List.flatten_cons, List.length_append]
    rw [List.length_cons, e]
    omega
theorem sum_lens (ys : List Str) : (ys.map (·.length)).sum = ((ys.map tl).flatten).length := by
  rw [List.length_flatten, List.map_map]
  exact congrArg List.sum (List.map_congr_left fun y _ => (Array.length_toList).symm)
theorem unf_snoc (fs : List Fc) (m : Nat) {i : Nat} {f : Fc} (h : fs[i]? = some f) : unf (fs.take (i + 1)) m = unf (fs.take i) m ++ piece m f := by
  unfold unf
  rw [List.take_add_one, h]
  simp
theorem kd_opt (b : Bool) : decide (V.str (kd b) = V.str "opt") = !b := by
  cases b
  · exact decide_eq_true rfl
  · exact decide_eq_false (by unfold kd; decide +kernel)
def spUnfold (K : PySem.W.Frag) : Sp := fun vs H Q _ => ∃ (v : V) (fs : List Fc) (m : Int), vs = [v, .int m] ∧ IsP K H v fs ∧ (∀ f ∈ fs, (tl f.2).length ≤ 3) ∧ fs.length ≤ 100 ∧ 0 ≤ m ∧ m ≤ 1000 ∧
  ∀ H' r, Same H H' → tl r = unf fs m.toNat → Q (.str r) H'
end DW
namespace DW
open PySem PySem.Spec PyProof.Rows L2 TL
set_option autoImplicit false
theorem tl_app (x y : Str) : tl (x ++ y) = tl x ++ tl y := Array.toList_append
def OverW (z : Str) (u : Str) : Prop := ∀ c ∈ tl u, c ∈ tl z
/-! ### the language of a product -/
abbrev ls (f : Fc) : List Nat := tl f.2
inductive Lg : List Fc → List Nat → Prop where
  | nil : Lg [] []
  | skip {f : Fc} {fs : List Fc} {w : List Nat} (h : Lg fs w) : Lg (f :: fs) w
  | opt {f : Fc} {fs : List Fc} {c : Nat} {w : List Nat} (k : f.1 = false) (m : c ∈ ls f) (h : Lg fs w) : Lg (f :: fs) (c :: w)
  | star {f : Fc} {fs : List Fc} {c : Nat} {w : List Nat} (k : f.1 = true) (m : c ∈ ls f) (h : Lg (f :: fs) w) : Lg (f :: fs) (c :: w)
theorem Lg.empty : ∀ fs : List Fc, Lg fs []
  | [] => .nil
  | _ :: fs => .skip (Lg.empty fs)
theorem Lg.tail {fs : List Fc} {c : Nat} {w : List Nat} (h : Lg fs (c :: w)) : Lg fs w := by
  generalize e : c :: w = u at h
  induction h with
  | nil => cases e
  | skip h ih => exact .skip (ih e)
  | opt k m h ih =>
    cases e
    exact .skip h
  | star k m h ih =>
    cases e
    exact h
theorem Lg.drop {fs : List Fc} : ∀ {u v : List Nat}, Lg fs (u ++ v) → Lg fs v
  | [], _, h => h
  | _ :: _, _, h => Lg.drop (Lg.tail h)
theorem Lg.init {fs : List Fc} {u v : List Nat} (h : Lg fs (u ++ v)) : Lg fs u := by
  generalize e : u ++ v = x at h
  induction h generalizing u with
  | nil =>
    obtain ⟨rfl, _⟩ := List.append_eq_nil_iff.mp e
    exact .nil
  | skip h ih => exact .skip (ih e)
  | opt k m h ih =>
    cases u with
    | nil => exact Lg.empty _
    | cons d u =>
      obtain ⟨rfl, e2⟩ := List.cons.inj e
      exact .opt k m (ih e2)
  | star k m h ih =>
    cases u with
    | nil => exact Lg.empty _
    | cons d u =>
      obtain ⟨rfl, e2⟩ := List.cons.inj e
      exact .star k m (ih e2)
theorem Lg.has {fs : List Fc} {c : Nat} {w : List Nat} (h : Lg fs (c :: w)) : ∃ g ∈ fs, c ∈ ls g := by
  generalize e : c :: w = u at h
  induction h with
  | nil => cases e
  | skip h ih =>
    obtain ⟨g, hg, hc⟩ := ih e
    exact ⟨g, List.mem_cons_of_mem _ hg, hc⟩
  | opt k m h ih =>
    cases e
    exact ⟨_, List.mem_cons_self, m⟩
  | star k m h ih =>
    cases e
    exact ⟨_, List.mem_cons_self, m⟩
theorem Lg.app {fs gs : List Fc} {u v : List Nat} (h1 : Lg fs u) (h2 : Lg gs v) : Lg (fs ++ gs) (u ++ v) := by
  induction h1 with
  | nil => exact h2
  | skip h ih => exact .skip ih
  | opt k m h ih => exact .opt k m ih
  | star k m h ih => exact .star k m ih
theorem Lg.split {gs : List Fc} : ∀ {fs : List Fc} {w : List Nat}, Lg (fs ++ gs) w → ∃ u v, w = u ++ v ∧ Lg fs u ∧ Lg gs v := by
  intro fs w h
  generalize e : fs ++ gs = hs at h
  induction h generalizing fs with
  | nil =>
    obtain ⟨rfl, rfl⟩ := List.append_eq_nil_iff.mp e
    exact ⟨[], [], rfl, .nil, .nil⟩
  | @skip f hs w h ih =>
    cases fs with
    | nil =>
      have e' : gs = f :: hs := e
      exact ⟨[], w, rfl, .nil, by rw [e']; exact .skip h⟩
    | cons f' fs =>
      obtain ⟨rfl, e2⟩ := List.cons.inj e
      obtain ⟨u, v, rfl, h1, h2⟩ := ih e2
      exact ⟨u, v, rfl, .skip h1, h2⟩
  | @opt f hs c w k m h ih =>
    cases fs with
    | nil =>
      have e' : gs = f :: hs := e
      exact ⟨[], c :: w, rfl, .nil, by rw [e']; exact .opt k m h⟩
    | cons f' fs =>
      obtain ⟨rfl, e2⟩ := List.cons.inj e
      obtain ⟨u, v, rfl, h1, h2⟩ := ih e2
      exact ⟨c :: u, v, rfl, .opt k m h1, h2⟩
  | @star f hs c w k m h ih =>
    cases fs with
    | nil =>
      have e' : gs = f :: hs := e
      exact ⟨[], c :: w, rfl, .nil, by rw [e']; exact .star k m h⟩
    | cons f' fs =>
      obtain ⟨rfl, e2⟩ := List.cons.inj e
      obtain ⟨u, v, rfl, h1, h2⟩ := ih (fs := f' :: fs) e
      exact ⟨c :: u, v, rfl, .star k m h1, h2⟩
theorem Lg.one_star {f : Fc} (k : f.1 = true) : ∀ {w : List Nat}, Lg [f] w ↔ ∀ c ∈ w, c ∈ ls f := by
  intro w
  constructor
  · intro h
    generalize e : [f] = hs at h
    induction h with
    | nil => intro c hc; cases hc
    | skip h ih =>
      obtain ⟨rfl, rfl⟩ := List.cons.inj e
      cases h
      intro c hc
      cases hc
    | opt k' m h ih =>
      obtain ⟨rfl, rfl⟩ := List.cons.inj e
      rw [k] at k'
      cases k'
    | star k' m h ih =>
      intro c hc
      rcases List.mem_cons.mp hc with q | q
      · obtain ⟨rfl, rfl⟩ := List.cons.inj e
        rw [q]
        exact m
      · exact ih e c q
  · intro h
    induction w with
    | nil => exact Lg.empty _
    | cons c w ih => exact .star k (h c List.mem_cons_self) (ih fun d hd => h d (List.mem_cons_of_mem _ hd))
theorem Lg.one_opt {f : Fc} (k : f.1 = false) {w : List Nat} (h : Lg [f] w) : w = [] ∨ ∃ c ∈ ls f, w = [c] := by
  cases h with
  | skip h =>
    cases h
    exact .inl rfl
  | opt k' m h =>
    cases h
    exact .inr ⟨_, m, rfl⟩
  | star k' m h =>
    rw [k] at k'
    cases k'
/-- a word behind a factor more -/
theorem Lg.snoc {fs : List Fc} {f : Fc} {u : List Nat} : Lg (fs ++ [f]) u ↔ Lg fs u ∨ ∃ u' c, u = u' ++ [c] ∧ c ∈ ls f ∧ (if f.1 = true then Lg (fs ++ [f]) u' else Lg fs u') := by
  constructor
  · intro h
    obtain ⟨a, b, rfl, h1, h2⟩ := h.split
    by_cases k : f.1 = true
    · have q := (Lg.one_star k).mp h2
      rcases List.eq_nil_or_concat b with e | ⟨b', c, e⟩
      · left
        rw [e, List.append_nil]
        exact h1
      · right
        rw [List.concat_eq_append] at e
        refine ⟨a ++ b', c, by rw [e, List.append_assoc], q c (by rw [e]; simp), ?_⟩
        rw [if_pos k]
        exact Lg.app h1 ((Lg.one_star k).mpr fun d hd => q d (by rw [e]; simp [hd]))
    · rcases Lg.one_opt (by simpa using k) h2 with e | ⟨c, hc, e⟩
      · left
        rw [e, List.append_nil]
        exact h1
      · right
        exact ⟨a, c, by rw [e], hc, by rw [if_neg k]; exact h1⟩
  · rintro (h | ⟨u', c, rfl, hc, h⟩)
    · have := Lg.app h (Lg.empty [f])
      rw [List.append_nil] at this
      exact this
    · by_cases k : f.1 = true
      · rw [if_pos k] at h
        obtain ⟨a, b, rfl, h1, h2⟩ := h.split
        rw [List.append_assoc]
        refine Lg.app h1 ((Lg.one_star k).mpr fun d hd => ?_)
        rcases List.mem_append.mp hd with q | q
        · exact (Lg.one_star k).mp h2 d q
        · rw [List.mem_singleton.mp q]
          exact hc
      · rw [if_neg k] at h
        exact Lg.app h (.opt (by simpa using k) hc .nil)
theorem Lg.unf (m : Nat) : ∀ fs : List Fc, (∀ f ∈ fs, f.1 = false → (ls f).length = 1) → Lg fs (DW.unf fs m)
  | [], _ => .nil
  | f :: fs, h => by
    have ih := Lg.unf m fs fun g hg => h g (List.mem_cons_of_mem _ hg)
    have e : DW.unf (f :: fs) m = piece m f ++ DW.unf fs m := rfl
    rw [e]
    refine Lg.app (fs := [f]) ?_ ih
    unfold piece
    by_cases k : f.1 = true
    · rw [if_pos k]
      refine (Lg.one_star k).mpr fun c hc => ?_
      obtain ⟨l, hl, hc⟩ := List.mem_flatten.mp hc
      rw [List.eq_of_mem_replicate hl] at hc
      exact hc
    · rw [if_neg k]
      have k' : f.1 = false := by simpa using k
      have l1 := h f List.mem_cons_self k'
      obtain ⟨c, e⟩ := List.length_eq_one_iff.mp l1
      have e' : tl f.2 = [c] := e
      rw [e']
      exact .opt k' (by show c ∈ tl f.2; rw [e']; simp) .nil
/-! ### inclusion, factor by factor -/
def sw (g f : Fc) : Bool := g.1 && (ls f).all fun c => decide (c ∈ ls g)
def cov (g f : Fc) : Bool := decide (g = f) || sw g f
def inc : List Fc → List Fc → Bool
  | _, [] => true
  | [], _ :: _ => false
  | g :: q, f :: p => if cov g f = true then (if g.1 = true then inc (g :: q) p else inc q p) else inc q (f :: p)
termination_by q p => q.length + p.length
def W1 (fs : List Fc) : Prop := ∀ f ∈ fs, ls f ≠ [] ∧ (f.1 = false → (ls f).length = 1)
theorem cov_sub {g f : Fc} (h : cov g f = true) (k : g.1 = true) : ∀ c ∈ ls f, c ∈ ls g := by
  intro c hc
  unfold cov at h
  rw [Bool.or_eq_true] at h
  rcases h with e | e
  · rw [of_decide_eq_true e]
    exact hc
  · unfold sw at e
    rw [Bool.and_eq_true, List.all_eq_true] at e
    exact of_decide_eq_true (e.2 c hc)
theorem cov_opt {g f : Fc} (h : cov g f = true) (k : g.1 = false) : g = f := by
  unfold cov at h
  rw [Bool.or_eq_true] at h
  rcases h with e | e
  · exact of_decide_eq_true e
  · unfold sw at e
    rw [k] at e
    cases e
theorem inc_sound : ∀ (q p : List Fc), inc q p = true → ∀ w, Lg p w → Lg q w
  | q, [], _, w, h => by
    cases h
    exact Lg.empty q
  | [], f :: p, h, w, _ => by
    unfold inc at h
    cases h
  | g :: q, f :: p, h, w, hw => by
    unfold inc at h
    by_cases c : cov g f = true
    · rw [if_pos c] at h
      by_cases k : g.1 = true
      · rw [if_pos k] at h
        have ih := inc_sound (g :: q) p h
        have sub := cov_sub c k
        generalize e : f :: p = fp at hw
        induction hw with
        | nil => cases e
        | skip h1 _ =>
          cases e
          exact ih _ h1
        | opt _ m h1 _ =>
          cases e
          exact .star k (sub _ m) (ih _ h1)
        | star _ m h1 ih1 =>
          cases e
          exact .star k (sub _ m) (ih1 rfl)
      · rw [if_neg k] at h
        have k' : g.1 = false := by simpa using k
        have ih := inc_sound q p h
        have e := cov_opt c k'
        subst e
        cases hw with
        | skip h1 => exact .skip (ih _ h1)
        | opt k2 m h1 => exact .opt k2 m (ih _ h1)
        | star k2 m h1 =>
          rw [k'] at k2
          cases k2
    · rw [if_neg c] at h
      exact .skip (inc_sound q (f :: p) h w hw)
termination_by q p => q.length + p.length
/-! ### a word that repeats letters in turn -/
def Per (L : List Nat) (o : Nat) (v : List Nat) : Prop := ∀ k : Nat, k < v.length → v[k]? = L[(o + k) % L.length]?
theorem Per.tail {L u v : List Nat} {o : Nat} (h : Per L o (u ++ v)) : Per L (o + u.length) v := fun k hk => by
  have q := h (u.length + k) (by rw [List.length_append]; omega)
  rw [List.getElem?_append_right (by omega), show u.length + k - u.length = k by omega] at q
  rw [q, Nat.add_assoc]
theorem Per.head {L u v : List Nat} {o : Nat} (h : Per L o (u ++ v)) : Per L o u := fun k hk => by
  have q := h k (by rw [List.length_append]; omega)
  rw [List.getElem?_append_left hk] at q
  exact q
theorem Per.all {L v : List Nat} {o : Nat} (h0 : L ≠ []) (h : Per L o v) (hl : L.length ≤ v.length) : ∀ c ∈ L, c ∈ v := by
  intro c hc
  obtain ⟨i, hi, e⟩ := List.mem_iff_getElem.mp hc
  have lp : 0 < L.length := List.length_pos_iff.mpr h0
  have om := Nat.mod_lt o lp
  -- k with (o + k) % |L| = i
  have : ∃ k, k < L.length ∧ (o + k) % L.length = i := by
    by_cases c : o % L.length ≤ i
    · refine ⟨i - o % L.length, by omega, ?_⟩
      rw [Nat.add_mod, Nat.mod_eq_of_lt (show i - o % L.length < L.length by omega)]
      rw [show o % L.length + (i - o % L.length) = i by omega, Nat.mod_eq_of_lt hi]
    · refine ⟨i + L.length - o % L.length, by omega, ?_⟩
      rw [Nat.add_mod, Nat.mod_eq_of_lt (show i + L.length - o % L.length < L.length by omega)]
      rw [show o % L.length + (i + L.length - o % L.length) = i + L.length by omega, Nat.add_mod_right, Nat.mod_eq_of_lt hi]
  obtain ⟨k, hk, ek⟩ := this
  have q := h k (by omega)
  rw [ek, List.getElem?_eq_getElem hi, e] at q
  exact List.mem_of_getElem? q
theorem Per.bound {f : Fc} (h0 : ls f ≠ []) : ∀ (q : List Fc), (∀ g ∈ q, cov g f = false) → ∀ (v : List Nat) (o : Nat), Per (ls f) o v → Lg q v → v.length ≤ q.length * (ls f).length
  | [], _, v, o, _, h => by
    cases h
    exact Nat.zero_le _
  | g :: q, hq, v, o, hp, h => by
    obtain ⟨a, b, rfl, h1, h2⟩ := Lg.split (fs := [g]) h
    have ih := Per.bound h0 q (fun g hg => hq g (List.mem_cons_of_mem _ hg)) b _ hp.tail h2
    have al : a.length ≤ (ls f).length := by
      have lp : 0 < (ls f).length := List.length_pos_iff.mpr h0
      by_cases k : g.1 = true
      · have sub := (Lg.one_star k).mp h1
        by_cases c : (ls f).length ≤ a.length
        · have al := hp.head.all h0 c
          have cv : cov g f = true := by
            unfold cov sw
            rw [Bool.or_eq_true]
            right
            rw [k, Bool.true_and, List.all_eq_true]
            exact fun c hc => decide_eq_true (sub c (al c hc))
          rw [hq g List.mem_cons_self] at cv
          cases cv
        · omega
      · rcases Lg.one_opt (by simpa using k) h1 with e | ⟨c, _, e⟩
        · rw [e]
          exact Nat.zero_le _
        · rw [e]
          exact lp
    rw [List.length_append, List.length_cons, Nat.succ_mul]
    omega
theorem per_rep (L : List Nat) (m : Nat) : Per L 0 (List.replicate m L).flatten := by
  induction m with
  | zero =>
    intro k hk
    exact absurd hk (Nat.not_lt_zero _)
  | succ m ih =>
    intro k hk
    rw [List.replicate_succ, List.flatten_cons]
    by_cases c : k < L.length
    · rw [List.getElem?_append_left c, Nat.zero_add, Nat.mod_eq_of_lt c]
    · rw [List.getElem?_append_right (by omega)]
      have q := ih (k - L.length) (by
        rw [List.replicate_succ, List.flatten_cons, List.length_append] at hk
        omega)
      rw [q, Nat.zero_add, Nat.zero_add]
      congr 1
      rw [← Nat.mod_eq_sub_mod (by omega)]
theorem rep_len (L : List Nat) (m : Nat) : (List.replicate m L).flatten.length = m * L.length := by
  rw [List.length_flatten, List.map_replicate, List.sum_replicate_nat]
/-- skipping factors that do not cover -/
theorem inc_skip {f : Fc} {p : List Fc} : ∀ {a b : List Fc}, (∀ g ∈ a, cov g f = false) → inc (a ++ b) (f :: p) = inc b (f :: p)
  | [], _, _ => rfl
  | g :: a, b, h => by
    rw [List.cons_append]
    rw [show inc (g :: (a ++ b)) (f :: p) = inc (a ++ b) (f :: p) by
      conv => lhs; unfold inc
      rw [if_neg (by rw [h g List.mem_cons_self]; simp)]]
    exact inc_skip fun g hg => h g (List.mem_cons_of_mem _ hg)
theorem first_cov (f : Fc) : ∀ q : List Fc, (∀ g ∈ q, cov g f = false) ∨ ∃ a g b, q = a ++ g :: b ∧ (∀ h ∈ a, cov h f = false) ∧ cov g f = true
  | [] => .inl fun g hg => (nomatch hg)
  | g :: q => by
    by_cases c : cov g f = true
    · exact .inr ⟨[], g, q, rfl, fun h hh => (nomatch hh), c⟩
    · have c' : cov g f = false := by simpa using c
      rcases first_cov f q with h | ⟨a, g', b, rfl, h1, h2⟩
      · left
        intro h' hh
        rcases List.mem_cons.mp hh with e | e
        · rw [e]; exact c'
        · exact h h' e
      · right
        refine ⟨g :: a, g', b, rfl, fun h hh => ?_, h2⟩
        rcases List.mem_cons.mp hh with e | e
        · rw [e]; exact c'
        · exact h1 h e
theorem inc_complete (m : Nat) : ∀ (p q : List Fc), W1 p → W1 q → q.length < m → Lg q (DW.unf p m) → inc q p = true
  | [], q, _, _, _, _ => by
    cases q <;> (unfold inc; rfl)
  | f :: p, q, wp, wq, hm, h => by
    have wp' : W1 p := fun g hg => wp g (List.mem_cons_of_mem _ hg)
    obtain ⟨n0, n1⟩ := wp f List.mem_cons_self
    have e : DW.unf (f :: p) m = piece m f ++ DW.unf p m := rfl
    rw [e] at h
    have lp : 0 < (ls f).length := List.length_pos_iff.mpr n0
    -- the factors that do not cover take at most |q| copies
    have key : ∀ a b, q = a ++ b → (∀ g ∈ a, cov g f = false) → ∃ v, v ≠ [] ∧ (∀ c ∈ v, c ∈ ls f) ∧ Lg b (v ++ DW.unf p m) := by
      intro a b eq ha
      rw [eq] at h
      obtain ⟨u, v, euv, h1, h2⟩ := h.split
      have la : a.length ≤ q.length := by rw [eq, List.length_append]; omega
      by_cases k : f.1 = true
      · have ep : piece m f = (List.replicate m (ls f)).flatten := by unfold piece; rw [if_pos k]
        rw [ep] at euv
        have pr := per_rep (ls f) m
        have lu : u.length < (List.replicate m (ls f)).flatten.length := by
          rw [rep_len]
          apply Decidable.byContradiction
          intro hc
          -- then all copies lie within u
          have hu : ∃ t, u = (List.replicate m (ls f)).flatten ++ t := by
            have q1 : (List.replicate m (ls f)).flatten <+: u ++ v := ⟨_, euv⟩
            have q2 : u <+: u ++ v := List.prefix_append _ _
            have q3 := List.prefix_of_prefix_length_le q1 q2 (by rw [rep_len]; omega)
            obtain ⟨t, et⟩ := q3
            exact ⟨t, et.symm⟩
          obtain ⟨t, rfl⟩ := hu
          have h3 : Lg a (List.replicate m (ls f)).flatten := by
            exact Lg.init h1
          have bd := Per.bound n0 a ha _ 0 pr h3
          rw [rep_len] at bd
          have : a.length * (ls f).length < m * (ls f).length := Nat.mul_lt_mul_of_pos_right (by omega) lp
          omega
        obtain ⟨t, et⟩ : ∃ t, (List.replicate m (ls f)).flatten = u ++ t := by
          have q1 : (List.replicate m (ls f)).flatten <+: u ++ v := ⟨_, euv⟩
          have q2 : u <+: u ++ v := List.prefix_append _ _
          obtain ⟨t, et⟩ := List.prefix_of_prefix_length_le q2 q1 (by omega)
          exact ⟨t, et.symm⟩
        have ev : v = t ++ DW.unf p m := by
          rw [et, List.append_assoc] at euv
          exact (List.append_cancel_left euv).symm
        refine ⟨t, fun z => ?_, fun c hc => ?_, by rw [← ev]; exact h2⟩
        · rw [z, List.append_nil] at et
          rw [et] at lu
          omega
        · have : c ∈ (List.replicate m (ls f)).flatten := by rw [et]; exact List.mem_append_right _ hc
          obtain ⟨l, hl, hc⟩ := List.mem_flatten.mp this
          rw [List.eq_of_mem_replicate hl] at hc
          exact hc
      · have k' : f.1 = false := by simpa using k
        obtain ⟨c, ec⟩ := List.length_eq_one_iff.mp (n1 k')
        have ec' : tl f.2 = [c] := ec
        have ep : piece m f = [c] := by unfold piece; rw [if_neg k, ec']
        rw [ep] at euv
        cases u with
        | nil => exact ⟨[c], by simp, fun d hd => by rw [List.mem_singleton.mp hd]; show c ∈ tl f.2; rw [ec']; simp, by rw [euv]; exact h2⟩
        | cons d u =>
          -- a takes the letter: one of its factors covers f
          exfalso
          have ed : c = d := (List.cons.inj euv).1
          subst ed
          obtain ⟨g, hg, hc⟩ := Lg.has h1
          have hq : g ∈ q := by rw [eq]; exact List.mem_append_left _ hg
          have cv : cov g f = true := by
            unfold cov
            rw [Bool.or_eq_true]
            by_cases kg : g.1 = true
            · right
              unfold sw
              rw [kg, Bool.true_and, List.all_eq_true]
              intro d hd
              have : d ∈ [c] := by rw [← ec']; exact hd
              rw [List.mem_singleton.mp this]
              exact decide_eq_true hc
            · left
              have kg' : g.1 = false := by simpa using kg
              obtain ⟨d, ed⟩ := List.length_eq_one_iff.mp ((wq g hq).2 kg')
              have hc' : c ∈ ls g := hc
              rw [ed] at hc'
              have e2 : tl g.2 = tl f.2 := by
                rw [ec']
                show ls g = [c]
                rw [ed, List.mem_singleton.mp hc']
              obtain ⟨g1, g2⟩ := g
              obtain ⟨f1, f2⟩ := f
              have e3 : g2 = f2 := tl_inj e2
              have e4 : g1 = f1 := kg'.trans k'.symm
              exact decide_eq_true (by rw [e3, e4])
          rw [ha g hg] at cv
          cases cv
    rcases first_cov f q with hn | ⟨a, g, b, eq, ha, hg⟩
    · obtain ⟨v, v0, _, hv⟩ := key q [] (by simp) hn
      cases v with
      | nil => exact absurd rfl v0
      | cons c v => cases hv
    · obtain ⟨v, v0, vs, hv⟩ := key a (g :: b) eq ha
      have ei : inc q (f :: p) = inc (g :: b) (f :: p) := by rw [eq]; exact inc_skip ha
      have lb : (g :: b).length ≤ q.length := by rw [eq, List.length_append]; omega
      rw [ei]
      have wb : W1 (g :: b) := fun x hx => wq x (by rw [eq]; exact List.mem_append_right _ hx)
      by_cases k : g.1 = true
      · have ih := inc_complete m p (g :: b) wp' wb (by omega) hv.drop
        unfold inc
        rw [if_pos hg, if_pos k]
        exact ih
      · have k' : g.1 = false := by simpa using k
        have eg := cov_opt hg k'
        have hb : Lg b (DW.unf p m) := by
          cases v with
          | nil => exact absurd rfl v0
          | cons c v =>
            cases hv with
            | skip h => exact Lg.drop (u := c :: v) h
            | opt _ _ h => exact Lg.drop h
            | star k2 _ _ =>
              rw [k'] at k2
              cases k2
        have ih := inc_complete m p b wp' (fun x hx => wb x (List.mem_cons_of_mem _ hx)) (by rw [List.length_cons] at lb; omega) hb
        unfold inc
        rw [if_pos hg, if_neg k]
        exact ih
end DW
namespace DW
open PySem PySem.Spec PyProof.Rows L2 TL
set_option autoImplicit false
theorem kd_star (b : Bool) : decide (V.str (kd b) = V.str "star") = b := by
  cases b
  · exact decide_eq_false (by unfold kd; decide +kernel)
  · exact decide_eq_true rfl
theorem kd_inj {a b : Bool} (h : kd a = kd b) : a = b := by
  cases a <;> cases b <;> first | rfl | (exfalso; revert h; unfold kd; decide +kernel)
def fD (f : Fc) : PyData := .tuple [.str (kd f.1), .str f.2]
theorem IsF.dp {K : PySem.W.Frag} {H : Hp} {v : V} {f : Fc} (h : IsF K H v f) : Dp K H v (fD f) := by
  obtain ⟨a, rfl, q⟩ := h
  exact .tup q (.cons (.str _) (.cons (.str _) .nil))
def Low (f : Fc) : Prop := (∀ c ∈ ls f, c < 128) ∧ (ls f).length ≤ 1000
theorem strOk_low {x : Str} (h : ∀ c ∈ tl x, c < 128) (hl : (tl x).length ≤ 1000) : PyData.strOk x = true := by
  unfold PyData.strOk
  rw [← Array.all_toList, List.all_eq_true]
  exact fun c hc => decide_eq_true (by have := h c hc; omega)
theorem kd_ok (b : Bool) : PyData.strOk (kd b) = true := by
  cases b <;> (unfold kd; decide +kernel)
theorem fD_shaped {f : Fc} (h : Low f) : SeqAt.shaped (fD f) = true := by
  unfold SeqAt.shaped fD
  rw [Bool.and_eq_true]
  refine ⟨?_, decide_eq_true (by simp [PyData.depth, PyData.depthAll])⟩
  simp only [PyData.canLay0, PyData.canLayAll0, kd_ok, strOk_low h.1 h.2, Bool.and_self]
theorem fD_eqv (f g : Fc) : PyData.eqv (fD f) (fD g) = decide (f = g) := by
  unfold fD
  simp only [PyData.eqv, PyData.eqvAll, Bool.and_true]
  rw [Bool.eq_iff_iff, Bool.and_eq_true, decide_eq_true_eq, beq_iff_eq, beq_iff_eq]
  constructor
  · rintro ⟨e1, e2⟩
    obtain ⟨a, b⟩ := f
    obtain ⟨c, d⟩ := g
    have := kd_inj e1
    simp only at this e2
    rw [this, e2]
  · rintro rfl
    exact ⟨rfl, rfl⟩
def spSw (K : PySem.W.Frag) : Sp := fun vs H Q _ => ∃ (x y : V) (g f : Fc), vs = [x, y] ∧ IsF K H x g ∧ IsF K H y f ∧ (ls f).length ≤ 1000 ∧ ∀ H', Same H H' → Q (.bl (sw g f)) H'
def spCov (K : PySem.W.Frag) : Sp := fun vs H Q _ => ∃ (x y : V) (g f : Fc), vs = [x, y] ∧ IsF K H x g ∧ IsF K H y f ∧ Low g ∧ Low f ∧ ∀ H', Same H H' → Q (.bl (cov g f)) H'
def spIncl (K : PySem.W.Frag) : Sp := fun vs H Q _ => ∃ (x y : V) (p q : List Fc), vs = [x, y] ∧ IsP K H x p ∧ IsP K H y q ∧ (∀ f ∈ p, Low f) ∧ (∀ g ∈ q, Low g) ∧ ∀ H', Same H H' → Q (.bl (inc q p)) H'
def rst : List Fc → List Fc → Option (List Fc)
  | q, [] => some q
  | [], _ :: _ => none
  | g :: q, f :: p => if cov g f = true then (if g.1 = true then rst (g :: q) p else rst q p) else rst q (f :: p)
termination_by q p => (q.length + p.length)
theorem rst_none (f : Fc) (p : List Fc) : rst [] (f :: p) = none := by unfold rst; rfl
theorem rst_cons (g f : Fc) (q p : List Fc) : rst (g :: q) (f :: p) = if cov g f = true then (if g.1 = true then rst (g :: q) p else rst q p) else rst q (f :: p) := by conv => lhs; unfold rst
theorem rst_nil (q : List Fc) : rst q [] = some q := by cases q <;> (unfold rst; rfl)
theorem inc_none (f : Fc) (p : List Fc) : inc [] (f :: p) = false := by unfold inc; rfl
theorem inc_cons (g f : Fc) (q p : List Fc) : inc (g :: q) (f :: p) = if cov g f = true then (if g.1 = true then inc (g :: q) p else inc q p) else inc q (f :: p) := by conv => lhs; unfold inc
theorem inc_nil (q : List Fc) : inc q [] = true := by cases q <;> (unfold inc; rfl)
theorem rst_inc : ∀ (q p : List Fc), (rst q p).isSome = inc q p
  | q, [] => by rw [rst_nil, inc_nil]; rfl
  | [], f :: p => by rw [rst_none, inc_none]; rfl
  | g :: q, f :: p => by
    rw [rst_cons, inc_cons]
    by_cases c : cov g f = true
    · rw [if_pos c, if_pos c]
      by_cases s : g.1 = true
      · rw [if_pos s, if_pos s]
        exact rst_inc (g :: q) p
      · rw [if_neg s, if_neg s]
        exact rst_inc q p
    · rw [if_neg c, if_neg c]
      exact rst_inc q (f :: p)
termination_by q p => (q.length + p.length)
/-- the place that is told: how many factors are left behind -/
def plV (n : Nat) : Option (List Fc) → V
  | none => .non
  | some r => .int ((n - r.length : Nat) : Int)
def spBehind (K : PySem.W.Frag) : Sp := fun vs H Q _ => ∃ (x : V) (q : List Fc) (i : Nat) (g : Fc), vs = [x, .int (i : Int)] ∧ IsP K H x q ∧ q[i]? = some g ∧ ∀ H', Same H H' → Q (.int ((if g.1 = true then i else i + 1 : Nat) : Int)) H'
def spPlc (K : PySem.W.Frag) : Sp := fun vs H Q _ => ∃ (x y : V) (p q : List Fc) (s : Nat), vs = [x, y, .int (s : Int)] ∧ IsP K H x p ∧ IsP K H y q ∧ s ≤ q.length ∧ (∀ f ∈ p, Low f) ∧ (∀ g ∈ q, Low g) ∧ ∀ H', Same H H' → Q (plV q.length (rst (q.drop s) p)) H'
section
variable {P : Program} {w : World} {K : PySem.W.Frag} {mg : Str → Option Value} {base : Heap}
theorem scSw : FnScope ["factor", "other", "letter"] ["factor", "other"] (defScope sSwallows) := ⟨rfl, rfl, rfl, by decide +kernel, rfl, by decide +kernel, by decide +kernel⟩
theorem ok_sw (D : Df K mg "swallows" sSwallows ["factor", "other"]) (ma : mg "all" = none) : FnOk P w K mg base CX0 1 D.f D.fd ["factor", "other"] (spSw K) := by
  refine D.F.ok scSw (fun vs H Q E h => ?_) (fun cdv A outer s H vs Q E hr h => ?_)
  · obtain ⟨x, y, g, f, rfl, _⟩ := h
    rfl
  · obtain ⟨x, y, g, f, rfl, ⟨a, rfl, ha⟩, ⟨b, rfl, hb⟩, fl, k⟩ := h
    refine ⟨_, pss_one (ps_ret (pe_and (pe_cmpR op_eq (pe_ix ix_tup (pv 0) pe_int (fun _ _ => rfl)) pe_str (nomark _)) (pe_one (pe_callB (cr_all rfl) (by rfl) ma (by decide +kernel) (pa_cons
      (pe_lc (own := [("letter", 2)]) (g := gName 2) rfl scSw.nd (pi_str (pe_ix ix_tup (pv 1) pe_int (fun _ _ => rfl))) (blkOk_by (N := ["factor", "other", "letter"]) (sc := defScope sSwallows) (by decide +kernel)) (fun _ _ _ _ _ => pg_name (i := 2) scSw.nd rfl (Or.inl rfl)) (fun _ _ _ _ _ => pts_nil)
        (fun _ _ _ _ _ => pe_cmpR op_in_sign (pv 2) (pe_ix (r := rIxT K) (by exact ix_tup) (pv 0) pe_int (fun _ _ => rfl)) rfl)) pa_nil))))), ?_⟩
    refine ⟨.ref a, rfl, a, _, 0, .str (kd g.1), rfl, rfl, ha, atI_nat (j := 0) rfl, rfl, _, rfl, ?_⟩
    rw [kd_star]
    refine ite2 (fun e => ?_) (fun e => ?_)
    · refine ⟨.ref b, rfl, b, _, 1, .str f.2, rfl, rfl, hb, atI_nat (j := 1) rfl, f.2, rfl, fun D hD => ?_⟩
      have zs : f.2.cps.size = (ls f).length := (Array.length_toList).symm
      refine lc_it walk_str (fun i H' => ∃ bs : List Bool, H' D = some (.lst (bs.map V.bl)) ∧ bs = ((ls f).take i).map (fun c => decide (c ∈ ls g)) ∧ Same H H') ?_ (fun _ _ _ _ => trivial) ?_ ?_
      · exact ⟨[], upd_same, rfl, same_upd hD⟩
      · rintro i x G G' hi ⟨bs, gD, be, sm⟩ ⟨rfl, d, hd, rfl⟩
        have hd' : (tl f.2)[i]? = some d := by rw [Array.getElem?_toList]; exact hd
        refine ⟨rfl, yes ?_⟩
        refine ⟨_, rfl, .ref a, rfl, a, _, 1, .str g.2, rfl, rfl, same_tup sm _ _ ha, atI_nat (j := 1) rfl, d, g.2, rfl, rfl, _, gD, ?_, bs ++ [decide (d ∈ tl g.2)], ?_, ?_, fun b u e => ?_⟩
        · rw [List.length_map, be, List.length_map, List.length_take, sizeLine_eq]
          omega
        · rw [upd_same, List.map_append]
          rfl
        · rw [be, List.take_add_one, hd', List.map_append]
          rfl
        · exact (upd_ne (ne_of_none e hD)).trans (sm _ _ e)
      · rintro G ⟨bs, gD, be, sm⟩
        refine ⟨D, bs, rfl, SqL.of gD, ?_⟩
        have e2 : bs.all id = sw g f := by
          rw [be, zs, List.take_length]
          unfold sw
          rw [e, Bool.true_and, List.all_map]
          rfl
        rw [e2]
        exact k _ sm
    · have e' : g.1 = false := by simpa using e
      have e2 : sw g f = false := by
        unfold sw
        rw [e']
        rfl
      rw [← e2]
      exact k _ (Same.refl _)
theorem scCov : FnScope ["factor", "other"] ["factor", "other"] (defScope sCovers) := ⟨rfl, rfl, rfl, by decide +kernel, rfl, by decide +kernel, by decide +kernel⟩
theorem ok_cov (D : Df K mg "covers" sCovers ["factor", "other"]) (Ds0 : Df K mg "swallows" sSwallows ["factor", "other"]) (ma : mg "all" = none) : FnOk P w K mg base CX0 2 D.f D.fd ["factor", "other"] (spCov K) := by
  have Gs : FnOk P w K mg base CX0 1 Ds0.f Ds0.fd ["factor", "other"] (spSw K) := ok_sw Ds0 ma
  refine D.F.ok scCov (fun vs H Q E h => ?_) (fun cdv A outer s H vs Q E hr h => ?_)
  · obtain ⟨x, y, g, f, rfl, _⟩ := h
    rfl
  · obtain ⟨x, y, g, f, rfl, hg, hf, lg, lf, k⟩ := h
    refine ⟨_, pss_one (ps_ret (pe_or (pe_cmpR (op_eqD hr.units) (pv 0) (pv 1) (nomark _)) (pe_one (pe_call Gs hr (by rfl) Ds0.g Ds0.F.kp Ds0.b .nil pass0 (pa_cons (pv 0) (pa_cons (pv 1) pa_nil)))))), ?_⟩
    refine ⟨x, rfl, y, rfl, fD g, fD f, hg.dp, hf.dp, fD_shaped lg, fD_shaped lf, _, rfl, ?_⟩
    rw [fD_eqv]
    refine ite2 (fun e => ?_) (fun e => ?_)
    · have e2 : cov g f = true := by
        unfold cov
        rw [e]
        rfl
      rw [← e2]
      exact k _ (Same.refl _)
    · refine ⟨x, rfl, y, rfl, x, y, g, f, rfl, hg, hf, lf.2, fun H' sm => ?_⟩
      have e2 : cov g f = sw g f := by
        unfold cov
        rw [show decide (g = f) = false by simpa using e]
        rfl
      rw [← e2]
      exact k _ sm
theorem drop_at {α : Type} {l : List α} {i : Nat} {x : α} (h : l[i]? = some x) : l.drop i = x :: l.drop (i + 1) := by
  obtain ⟨hi, e⟩ := List.getElem?_eq_some_iff.mp h
  rw [← e]
  exact List.drop_eq_getElem_cons hi
theorem IsFs.at {K : PySem.W.Frag} {H : Hp} : ∀ {vs : List V} {fs : List Fc}, IsFs K H vs fs → ∀ (i : Nat), i < fs.length → ∃ v f, vs[i]? = some v ∧ fs[i]? = some f ∧ IsF K H v f := by
  intro vs fs h i hi
  have hv : i < vs.length := by rw [h.len]; exact hi
  obtain ⟨f, e, q⟩ := h.get i vs[i] (List.getElem?_eq_getElem hv)
  exact ⟨_, f, List.getElem?_eq_getElem hv, e, q⟩
theorem scBeh : FnScope ["product", "place"] ["product", "place"] (defScope sBehind) := ⟨rfl, rfl, rfl, by decide +kernel, rfl, by decide +kernel, by decide +kernel⟩
theorem ok_beh (D : Df K mg "behind" sBehind ["product", "place"]) : FnOk P w K mg base CX0 1 D.f D.fd ["product", "place"] (spBehind K) := by
  refine D.F.ok scBeh (fun vs H Q E h => ?_) (fun cdv A outer s H vs Q E hr h => ?_)
  · obtain ⟨x, q, i, g, rfl, _⟩ := h
    rfl
  · obtain ⟨x, q, i, g, rfl, ⟨b, ys, rfl, hb, iQ⟩, hg, k⟩ := h
    refine ⟨_, pss_cons (ps_if (pt_cmpR op_eq (pe_ix ix_tup (pe_ix ix_tup (pv 0) (pv 1) (fun _ _ => rfl)) pe_int (fun _ _ => rfl)) pe_str (nomark _)) (pss_one (ps_ret (pv 1))) pss_nil)
      (pss_one (ps_ret (pe_op op_add (pv 1) pe_int))), ?_⟩
    obtain ⟨v, g', hv, hg', c, rfl, hc⟩ := iQ.at i (List.getElem?_eq_some_iff.mp hg).1
    rw [hg] at hg'
    cases hg'
    refine ⟨.ref b, rfl, .int (i : Int), rfl, b, ys, (i : Int), .ref c, rfl, rfl, hb, atI_nat hv, c, _, 0, .str (kd g.1), rfl, rfl, hc, atI_nat (j := 0) rfl, rfl, _, rfl, ?_⟩
    rw [kd_star]
    refine ite2 (fun e2 => ?_) (fun e2 => ?_)
    · have kg : g.1 = true := by simpa using e2
      rw [if_pos kg] at k
      exact ⟨_, rfl, k _ (Same.refl _)⟩
    · have kg : g.1 = false := by simpa using e2
      rw [if_neg (by rw [kg]; simp)] at k
      exact ⟨_, rfl, _, _, rfl, rfl, k _ (Same.refl _)⟩
theorem scPlc : FnScope ["product", "other", "start", "place", "factor"] ["product", "other", "start"] (defScope sPlaceBehind) := ⟨rfl, rfl, rfl, by decide +kernel, rfl, by decide +kernel, by decide +kernel⟩
theorem ok_plc (D : Df K mg "place_behind" sPlaceBehind ["product", "other", "start"]) (Db : Df K mg "behind" sBehind ["product", "place"]) (Dc : Df K mg "covers" sCovers ["factor", "other"]) (Ds0 : Df K mg "swallows" sSwallows ["factor", "other"]) (ma : mg "all" = none) (ml : mg "len" = none) :
    FnOk P w K mg base CX0 3 D.f D.fd ["product", "other", "start"] (spPlc K) := by
  have Gc : FnOk P w K mg base CX0 2 Dc.f Dc.fd ["factor", "other"] (spCov K) := ok_cov Dc Ds0 ma
  have Gb : FnOk P w K mg base CX0 1 Db.f Db.fd ["product", "place"] (spBehind K) := ok_beh Db
  refine D.F.ok scPlc (fun vs H Q E h => ?_) (fun cdv A outer s H vs Q E hr h => ?_)
  · obtain ⟨x, y, p, q, s, rfl, _⟩ := h
    rfl
  · obtain ⟨x, y, p, q, st, rfl, ⟨a, xs, rfl, ha, iP⟩, ⟨b, ys, rfl, hb, iQ⟩, hst, pl3, ql3, k⟩ := h
    have hq : IsP K H (.ref b) q := ⟨b, ys, rfl, hb, iQ⟩
    refine ⟨_, PSs.nox (pss_cons (ps_set (i := 3) scPlc.nd rfl (.inl rfl) (pv 2))
      (pss_cons (ps_for PassesOwn.never rfl (pi_tup (pv 0)) (pg_name (i := 4) scPlc.nd rfl (.inl rfl))
        (C8.pss_cut (ps_while PassesOwn.never (pw_and (pt_cmpR op_lt (pv 3) (pe_callB call_len_seq (by rfl) ml PySem.boot_len (pa_cons (pv 1) pa_nil)) (nomark _))
            (pw_and1 (pt_not (pt_val (pe_call Gc hr (by rfl) Dc.g Dc.F.kp Dc.b .nil pass0 (pa_cons (pe_ix ix_tup (pv 1) (pv 3) (fun _ _ => rfl)) (pa_cons (pv 4) pa_nil))))))).pt
          (pss_one (ps_aug (i := 3) scPlc.nd rfl (.inl rfl) pe_int ip_add)))
        (pss_cons (ps_if (pt_cmpR op_eq (pv 3) (pe_callB call_len_seq (by rfl) ml PySem.boot_len (pa_cons (pv 1) pa_nil)) (nomark _)) (pss_one (ps_ret pe_non)) pss_nil)
        (pss_one (ps_set (i := 3) scPlc.nd rfl (.inl rfl) (pe_call Gb (hr.mono (by decide)) (by rfl) Db.g Db.F.kp Db.b .nil pass0 (pa_cons (pv 1) (pa_cons (pv 3) pa_nil))))))))
      (pss_one (ps_ret (pv 3))))), ?_⟩
    have yl : ys.length = q.length := iQ.len
    refine ⟨_, rfl, .ref a, rfl, a, rfl, ⟨xs, ha⟩, for_it (walk_tup (xs := xs)) (fun i σ H' => ∃ (pl : Nat) (y3 : Option V), σ = [some (.ref a), some (.ref b), some (.int (st : Int)), some (.int pl), y3] ∧ Same H H' ∧ pl ≤ q.length ∧ rst (q.drop pl) (p.drop i) = rst (q.drop st) p)
      ⟨st, _, rfl, Same.refl _, hst, rfl⟩ (fun _ _ H' _ ⟨_, _, _, sm, _⟩ => same_tup sm _ _ ha) ?_ ?_⟩
    · rintro i x σ G G' hi ⟨pl, y3, rfl, sm, hpl, ei⟩ ⟨rfl, hx⟩
      obtain ⟨f, hf, isf⟩ := iP.get i x hx
      have fm : f ∈ p := List.mem_of_getElem? hf
      rw [drop_at hf] at ei
      refine ⟨fun σ' H' => ∃ pl : Nat, σ' = [some (.ref a), some (.ref b), some (.int (st : Int)), some (.int pl), some x] ∧ Same H H' ∧ pl ≤ q.length ∧ rst (q.drop pl) (f :: p.drop (i + 1)) = rst (q.drop st) p ∧ ∀ g, q[pl]? = some g → cov g f = true, ?_, ?_⟩
      · refine ⟨fun m σ' H' => ∃ pl : Nat, σ' = [some (.ref a), some (.ref b), some (.int (st : Int)), some (.int pl), some x] ∧ Same H H' ∧ pl ≤ q.length ∧ rst (q.drop pl) (f :: p.drop (i + 1)) = rst (q.drop st) p ∧ m = q.length - pl, ⟨_, pl, rfl, sm, hpl, ei, rfl⟩, ?_⟩
        rintro m σ' H' ⟨pl, rfl, sm, hpl, ei, rfl⟩
        refine ⟨.int pl, rfl, .ref b, rfl, b, ys, rfl, .inr (same_tup sm _ _ hb), _, _, rfl, rfl, _, rfl, ite2 (fun e => ?_) (fun e => ?_)⟩
        · have lt : pl < q.length := by
            have := of_decide_eq_true e
            omega
          obtain ⟨v, g, hv, hg, isg⟩ := iQ.at pl lt
          refine ⟨.ref b, rfl, .int pl, rfl, b, ys, (pl : Int), v, rfl, rfl, same_tup sm _ _ hb, atI_nat hv, x, rfl, v, x, g, f, rfl, isg.mono (same_tup sm), isf.mono (same_tup sm), ql3 g (List.mem_of_getElem? hg), pl3 f fm, fun H2 s2 => ?_⟩
          refine ⟨_, rfl, ?_⟩
          have eg := drop_at hg
          refine ite2 (fun e2 => ?_) (fun e2 => ?_)
          · have c : cov g f = false := by simpa using e2
            refine ⟨fun σ' H' => ∃ y, σ' = [some (.ref a), some (.ref b), some (.int (st : Int)), y, some x] ∧ y = some (.int ((pl + 1 : Nat) : Int)) ∧ Same H H', fun σ' H' h => ?_, ?_⟩
            · obtain ⟨y, rfl, rfl, s3⟩ := h
              refine ⟨q.length - (pl + 1), by omega, pl + 1, rfl, s3, by omega, ?_, rfl⟩
              rw [eg, rst_cons, if_neg (by rw [c]; simp)] at ei
              exact ei
            · exact ⟨_, rfl, _, _, rfl, rfl, _, rfl, rfl, sm.trans s2⟩
          · have c : cov g f = true := by simpa using e2
            exact ⟨pl, rfl, sm.trans s2, hpl, ei, fun g' hg' => by rw [hg] at hg'; cases hg'; exact c⟩
        · have ge : q.length ≤ pl := by
            have : ¬ (pl : Int) < (ys.length : Int) := fun z => e (decide_eq_true z)
            omega
          exact ⟨pl, rfl, sm, hpl, ei, fun g hg => by
            have := (List.getElem?_eq_some_iff.mp hg).1
            omega⟩
      · rintro σ' H' ⟨pl, rfl, sm, hpl, ei, cv⟩
        refine ⟨.int pl, rfl, .ref b, rfl, b, ys, rfl, .inr (same_tup sm _ _ hb), rfl, _, rfl, ite2 (fun e => ?_) (fun e => ?_)⟩
        · have e' : pl = q.length := by
            have := V.int.inj (of_decide_eq_true e)
            omega
          rw [e', List.drop_length, rst_none] at ei
          show Q .non _
          have k' := k _ sm
          rw [← ei] at k'
          exact k'
        · have lt : pl < q.length := by
            have : ¬ V.int (pl : Int) = V.int (ys.length : Int) := fun z => e (decide_eq_true z)
            have : ¬ pl = ys.length := fun z => this (by rw [z])
            omega
          obtain ⟨v, g, hv, hg, _⟩ := iQ.at pl lt
          have eg := drop_at hg
          rw [eg, rst_cons, if_pos (cv g hg)] at ei
          refine ⟨.ref b, rfl, .int pl, rfl, .ref b, q, pl, g, rfl, hq.mono (same_tup sm), hg, fun H2 s2 => ?_⟩
          refine ⟨if g.1 = true then pl else pl + 1, _, rfl, sm.trans s2, by split <;> omega, ?_⟩
          by_cases kg : g.1 = true
          · rw [if_pos kg, ← eg] at ei
            rw [if_pos kg]
            exact ei
          · rw [if_neg kg] at ei
            rw [if_neg kg]
            exact ei
    · rintro σ H' ⟨pl, y3, rfl, sm, hpl, ei⟩
      rw [iP.len, List.drop_length, rst_nil] at ei
      have k' := k _ sm
      rw [← ei] at k'
      refine ⟨_, rfl, ?_⟩
      have e3 : plV q.length (some (q.drop pl)) = .int (pl : Int) := by
        show V.int _ = _
        rw [List.length_drop, show q.length - (q.length - pl) = pl by omega]
      rw [e3] at k'
      exact k'
theorem scIncl : FnScope ["product", "other"] ["product", "other"] (defScope sIsIncluded) := ⟨rfl, rfl, rfl, by decide +kernel, rfl, by decide +kernel, by decide +kernel⟩
structure DfIncl (K : PySem.W.Frag) (mg : Str → Option Value) where
  i : Df K mg "is_included" sIsIncluded ["product", "other"]
  p : Df K mg "place_behind" sPlaceBehind ["product", "other", "start"]
  b : Df K mg "behind" sBehind ["product", "place"]
  c : Df K mg "covers" sCovers ["factor", "other"]
  s : Df K mg "swallows" sSwallows ["factor", "other"]
theorem ok_incl (D : DfIncl K mg) (ma : mg "all" = none) (ml : mg "len" = none) :
    FnOk P w K mg base CX0 4 D.i.f D.i.fd ["product", "other"] (spIncl K) := by
  have Gp : FnOk P w K mg base CX0 3 D.p.f D.p.fd ["product", "other", "start"] (spPlc K) := ok_plc D.p D.b D.c D.s ma ml
  refine D.i.F.ok scIncl (fun vs H Q E h => ?_) (fun cdv A outer s H vs Q E hr h => ?_)
  · obtain ⟨x, y, p, q, rfl, _⟩ := h
    rfl
  · obtain ⟨x, y, p, q, rfl, hp, hq, pl3, ql3, k⟩ := h
    refine ⟨_, pss_one (ps_ret (pe_cmpR op_notN (pe_call Gp hr (by rfl) D.p.g D.p.F.kp D.p.b .nil pass0 (pa_cons (pv 0) (pa_cons (pv 1) (pa_cons pe_int pa_nil)))) pe_non (nomark _))), ?_⟩
    refine ⟨_, rfl, _, rfl, x, y, p, q, 0, rfl, hp, hq, Nat.zero_le _, pl3, ql3, fun H' sm => ⟨rfl, ?_⟩⟩
    rw [List.drop_zero]
    have e : (!decide (plV q.length (rst q p) = V.non)) = inc q p := by
      rw [← rst_inc]
      cases rst q p with
      | none => rfl
      | some r => rfl
    rw [e]
    exact k _ sm
end
end DW
namespace DW
open PySem PySem.Spec PyProof.Rows L2 TL
set_option autoImplicit false
/-! ### all ways to divide, by places -/
theorem Lg.of_nil {u : List Nat} (h : Lg [] u) : u = [] := by
  cases h
  rfl
end DW
namespace DW
open PySem PySem.Spec PyProof.Rows L2 TL
set_option autoImplicit false
theorem fok_w1 {z : Str} {fs : List Fc} (h : ∀ f ∈ fs, FOk z f) : W1 fs := fun f hf => ⟨(h f hf).1, (h f hf).2.2⟩
theorem fok_len {z : Str} (al : Alph z) {f : Fc} (h : FOk z f) : (ls f).length ≤ 3 := Nat.le_trans h.2.1.length_le al.2.2.1
theorem fok_low {z : Str} (al : Alph z) {f : Fc} (h : FOk z f) : Low f := ⟨fun c hc => by
  have := al.2.2.2 c (h.2.1.subset hc)
  omega, Nat.le_trans (fok_len al h) (by decide)⟩
theorem alph_ne {z : Str} (al : Alph z) : tl z ≠ [] := fun q => by
  have := al.2.1
  rw [q] at this
  cases this
theorem inc_iff {p q : List Fc} (wp : W1 p) (wq : W1 q) : inc q p = true ↔ Lg q (unf p (q.length + 1)) :=
  ⟨fun h => inc_sound q p h _ (Lg.unf _ p fun f hf => (wp f hf).2), fun h => inc_complete (q.length + 1) p q wp wq (Nat.lt_succ_self _) h⟩
/-! ### words as products of optional letters -/
def ones (w : List Nat) : List Fc := w.map fun c => (false, one c)
theorem unf_ones (w : List Nat) (m : Nat) : unf (ones w) m = w := by
  unfold unf ones
  induction w with
  | nil => rfl
  | cons c w ih =>
    rw [List.map_cons, List.map_cons, List.flatten_cons, ih]
    rfl
theorem w1_ones (w : List Nat) : W1 (ones w) := fun f hf => by
  obtain ⟨c, _, rfl⟩ := List.mem_map.mp hf
  exact ⟨by simp [ls, one], fun _ => rfl⟩
theorem acc_iff {q : List Fc} (wq : W1 q) (w : List Nat) : inc q (ones w) = true ↔ Lg q w := by
  rw [inc_iff (w1_ones w) wq, unf_ones]
theorem low_ones {w : List Nat} (h : ∀ c ∈ w, c < 128) : ∀ f ∈ ones w, Low f := fun f hf => by
  obtain ⟨c, hc, rfl⟩ := List.mem_map.mp hf
  exact ⟨fun d hd => by rw [List.mem_singleton.mp hd]; exact h c hc, by show 1 ≤ 1000; decide⟩
theorem Lg.sub {fs : List Fc} {u w : List Nat} (h : Lg fs u) (s : w.Sublist u) : Lg fs w := by
  induction h generalizing w with
  | nil =>
    rw [List.sublist_nil.mp s]
    exact .nil
  | skip h ih => exact .skip (ih s)
  | opt k m h ih =>
    cases s with
    | cons _ s => exact .skip (ih s)
    | cons_cons _ s => exact .opt k m (ih s)
  | star k m h ih =>
    cases s with
    | cons _ s => exact ih s
    | cons_cons _ s => exact .star k m (ih s)
theorem sub_rep {L : List Nat} : ∀ (u : List Nat) (m : Nat), (∀ c ∈ u, c ∈ L) → u.length ≤ m → u.Sublist (List.replicate m L).flatten
  | [], _, _, _ => List.nil_sublist _
  | c :: u, 0, _, h => by simp at h
  | c :: u, m + 1, h, hl => by
    rw [List.replicate_succ, List.flatten_cons]
    have h1 : [c].Sublist L := List.singleton_sublist.mpr (h c List.mem_cons_self)
    have h2 := sub_rep u m (fun d hd => h d (List.mem_cons_of_mem _ hd)) (by rw [List.length_cons] at hl; omega)
    exact h1.append h2
theorem Lg.to_unf (m : Nat) : ∀ (fs : List Fc) (w : List Nat), (∀ f ∈ fs, f.1 = false → (ls f).length = 1) → Lg fs w → w.length ≤ m → w.Sublist (DW.unf fs m)
  | [], w, _, h, _ => by
    rw [Lg.of_nil h]
    exact List.nil_sublist _
  | f :: fs, w, h1, h, hl => by
    obtain ⟨u, v, rfl, hu, hv⟩ := Lg.split (fs := [f]) h
    rw [List.length_append] at hl
    have ih := Lg.to_unf m fs v (fun g hg => h1 g (List.mem_cons_of_mem _ hg)) hv (by omega)
    have e : DW.unf (f :: fs) m = piece m f ++ DW.unf fs m := rfl
    rw [e]
    refine List.Sublist.append ?_ ih
    unfold piece
    by_cases k : f.1 = true
    · rw [if_pos k]
      exact sub_rep u m ((Lg.one_star k).mp hu) (by omega)
    · rw [if_neg k]
      have k' : f.1 = false := by simpa using k
      rcases Lg.one_opt k' hu with e | ⟨c, hc, e⟩
      · rw [e]
        exact List.nil_sublist _
      · rw [e]
        exact List.singleton_sublist.mpr hc
theorem sub_unf_iff {fs : List Fc} (wf : W1 fs) {w : List Nat} {m : Nat} (hm : w.length ≤ m) : w.Sublist (unf fs m) ↔ Lg fs w :=
  ⟨fun s => (Lg.unf m fs fun f hf => (wf f hf).2).sub s, fun h => Lg.to_unf m fs w (fun f hf => (wf f hf).2) h hm⟩
/-! ### letters taken one after the other -/
def rem : List Nat → List Nat → List Nat
  | w, [] => w
  | [], _ :: _ => []
  | c :: w, d :: o => if c = d then rem w o else rem (c :: w) o
theorem rem_nil : ∀ o : List Nat, rem [] o = []
  | [] => rfl
  | _ :: _ => rfl
theorem rem_iff : ∀ (o w : List Nat), rem w o = [] ↔ w.Sublist o
  | [], w => by
    show w = [] ↔ _
    rw [List.sublist_nil]
  | d :: o, [] => by simp [rem]
  | d :: o, c :: w => by
    show (if c = d then rem w o else rem (c :: w) o) = [] ↔ _
    by_cases e : c = d
    · subst e
      rw [if_pos rfl, rem_iff o w, List.cons_sublist_cons]
    · rw [if_neg e, rem_iff o (c :: w)]
      constructor
      · exact fun h => .cons _ h
      · intro h
        cases h with
        | cons _ h => exact h
        | cons_cons _ h => exact absurd rfl e
theorem cut_tail {z : Str} {c : Nat} {r : List Nat} (h : tl z = c :: r) : tl (cutS z (some 1) none) = r := by
  have zl : z.length = r.length + 1 := by
    have e : z.length = (tl z).length := (Array.length_toList).symm
    rw [e, h]
    rfl
  show ((z.cps.toList.drop (HT.sIx z.length 0 (some 1))).take (HT.sIx z.length z.length none - HT.sIx z.length 0 (some 1))) = r
  rw [show HT.sIx z.length 0 (some 1) = min 1 z.length from HT.sIx_nat z.length 0 1, HT.sIx_none]
  have h' : z.cps.toList = c :: r := h
  rw [h', show min 1 z.length = 1 by omega, show z.length - 1 = r.length by omega]
  show List.take r.length r = r
  exact List.take_length
def spSubw (K : PySem.W.Frag) : Sp := fun vs H Q _ => ∃ z : Str, vs = [.str z] ∧ (tl z).length ≤ 100000 ∧ ∀ H' v, Same H H' → IsP K H' v (ones (tl z)) → Q v H'
def spAcc (K : PySem.W.Frag) : Sp := fun vs H Q _ => ∃ (v : V) (fs : List Fc) (z : Str), vs = [v, .str z] ∧ IsP K H v fs ∧ W1 fs ∧ (∀ f ∈ fs, Low f) ∧ (tl z).length ≤ 100000 ∧ (∀ c ∈ tl z, c < 128) ∧ ∀ H' b, Same H H' → (b = true ↔ Lg fs (tl z)) → Q (.bl b) H'
section
variable {P : Program} {w : World} {K : PySem.W.Frag} {mg : Str → Option Value} {base : Heap}
theorem scSubw : FnScope ["word", "letter"] ["word"] (defScope sSubwordsProduct) := ⟨rfl, rfl, rfl, by decide +kernel, rfl, by decide +kernel, by decide +kernel⟩
theorem ok_subw (D : Df K mg "subwords_product" sSubwordsProduct ["word"]) (mt : mg "tuple" = none) : FnOk P w K mg base CX0 1 D.f D.fd ["word"] (spSubw K) := by
  refine D.F.ok scSubw (fun vs H Q E h => ?_) (fun cdv A outer s H vs Q E hr h => ?_)
  · obtain ⟨z, rfl, _⟩ := h
    rfl
  · obtain ⟨z, rfl, zl, k⟩ := h
    have zs : z.cps.size = (tl z).length := (Array.length_toList).symm
    refine ⟨_, (pss_one (ps_ret (pe_callTy call_tuple_of (by rfl) mt (by decide +kernel) (pa_cons (pe_lc (own := [("letter", 1)]) (g := gName 1) rfl scSubw.nd (pi_str (pv 0)) (blkOk_by (N := ["word", "letter"]) (sc := defScope sSubwordsProduct) (by decide +kernel)) (fun _ _ _ _ _ => pg_name (i := 1) scSubw.nd rfl (Or.inl rfl)) (fun _ _ _ _ _ => pts_nil) (fun _ _ _ _ _ => (pe_tup (pa_cons pe_str (pa_cons (pv 1) pa_nil))))) pa_nil)))), ?_⟩
    refine ⟨.str z, rfl, z, rfl, fun D hD => ?_⟩
    refine lc_it walk_str (fun i H' => ∃ us : List V, H' D = some (.lst us) ∧ IsFs K H' us (ones ((tl z).take i)) ∧ Same H H') ?_ (fun _ _ _ _ => trivial) ?_ ?_
    · exact ⟨[], upd_same, .nil, same_upd hD⟩
    · rintro i x G G' hi ⟨us, gD, iF, sm⟩ ⟨rfl, d, hd, rfl⟩
      have hd' : (tl z)[i]? = some d := by rw [Array.getElem?_toList]; exact hd
      refine ⟨rfl, yes ?_⟩
      refine ⟨_, rfl, by show 2 ≤ sizeLine; decide, fun p hp => ?_⟩
      have sp := same_upd (o := .tup [.str "opt", .str ⟨#[d]⟩]) hp
      have gD1 := sp _ _ gD
      refine ⟨us, gD1, ?_, us ++ [.ref p], upd_same, ?_, fun b o e => (upd_ne (ne_of_none e hD)).trans (sp _ _ (sm _ _ e))⟩
      · rw [iF.len]
        unfold ones
        rw [List.length_map, List.length_take, sizeLine_eq]
        omega
      · have e : ones ((tl z).take (i + 1)) = ones ((tl z).take i) ++ [(false, one d)] := by
          unfold ones
          rw [List.take_add_one, hd', List.map_append]
          rfl
        rw [e]
        exact ((iF.mono (same_tup sp)).snoc ⟨p, rfl, SqT.of upd_same⟩).mono (upd_tup gD1)
    · rintro G ⟨us, gD, iF, sm⟩
      rw [zs, List.take_length] at iF
      refine ⟨D, us, rfl, .inl ⟨SqL.of gD, fun p hp => ?_⟩⟩
      have sp := same_upd (o := .tup us) hp
      exact k _ _ (sm.trans sp) ⟨p, us, rfl, SqT.of upd_same, iF.mono (same_tup sp)⟩
end
end DW
namespace DW
open PySem PySem.Spec PyProof.Rows L2 TL
set_option autoImplicit false
theorem rep_mono (L : List Nat) {a b : Nat} (h : a ≤ b) : ((List.replicate a L).flatten).Sublist (List.replicate b L).flatten := by
  obtain ⟨k, rfl⟩ : ∃ k, b = a + k := ⟨b - a, by omega⟩
  rw [← List.replicate_append_replicate, List.flatten_append]
  exact List.sublist_append_left _ _
theorem unf_mono {a b : Nat} (h : a ≤ b) : ∀ fs : List Fc, (unf fs a).Sublist (unf fs b)
  | [] => List.Sublist.refl _
  | f :: fs => by
    show (piece a f ++ unf fs a).Sublist (piece b f ++ unf fs b)
    refine List.Sublist.append ?_ (unf_mono h fs)
    unfold piece
    by_cases e : f.1 = true
    · rw [if_pos e, if_pos e]
      exact rep_mono _ h
    · rw [if_neg e, if_neg e]
      exact List.Sublist.refl _
theorem over_unf {z : Str} {fs : List Fc} (ok : ∀ f ∈ fs, FOk z f) {m : Nat} {c : Nat} (hc : c ∈ unf fs m) : c ∈ tl z := by
  unfold unf at hc
  obtain ⟨l, hl, hc⟩ := List.mem_flatten.mp hc
  obtain ⟨f, hf, rfl⟩ := List.mem_map.mp hl
  refine (ok f hf).2.1.subset ?_
  unfold piece at hc
  by_cases e : f.1 = true
  · rw [if_pos e] at hc
    obtain ⟨l, hl, hc⟩ := List.mem_flatten.mp hc
    rw [List.eq_of_mem_replicate hl] at hc
    exact hc
  · rw [if_neg e] at hc
    exact hc
/-! ### lists of products -/
def pD (fs : List Fc) : PyData := .tuple (fs.map fD)
theorem IsFs.dp {K : PySem.W.Frag} {H : Hp} : ∀ {vs : List V} {fs : List Fc}, IsFs K H vs fs → DpAll K H vs (fs.map fD)
  | _, _, .nil => .nil
  | _, _, .cons h r => .cons h.dp r.dp
theorem IsP.dp {K : PySem.W.Frag} {H : Hp} {v : V} {fs : List Fc} (h : IsP K H v fs) : Dp K H v (pD fs) := by
  obtain ⟨a, xs, rfl, q, r⟩ := h
  exact .tup q r.dp
structure GoodP (K : PySem.W.Frag) (H : Hp) (z : Str) (v : V) (q : List Fc) : Prop where
  isp : IsP K H v q
  ok : ∀ f ∈ q, FOk z f
  len : q.length ≤ 6
inductive IsPs (K : PySem.W.Frag) (H : Hp) (z : Str) : List V → List (List Fc) → Prop where
  | nil : IsPs K H z [] []
  | cons {v : V} {f : List Fc} {vs : List V} {fs : List (List Fc)} (h : GoodP K H z v f) (r : IsPs K H z vs fs) : IsPs K H z (v :: vs) (f :: fs)
section
variable {K : PySem.W.Frag} {H H' : Hp} {z : Str}
theorem IsPs.snoc {v : V} {f : List Fc} : ∀ {vs : List V} {fs : List (List Fc)}, IsPs K H z vs fs → GoodP K H z v f → IsPs K H z (vs ++ [v]) (fs ++ [f])
  | _, _, .nil, h => .cons h .nil
  | _, _, .cons a r, h => .cons a (r.snoc h)
theorem IsPs.len : ∀ {vs : List V} {fs : List (List Fc)}, IsPs K H z vs fs → vs.length = fs.length
  | _, _, .nil => rfl
  | _, _, .cons _ r => by rw [List.length_cons, List.length_cons, r.len]
theorem IsPs.get : ∀ {vs : List V} {fs : List (List Fc)}, IsPs K H z vs fs → ∀ (i : Nat) (v : V), vs[i]? = some v → ∃ f, fs[i]? = some f ∧ GoodP K H z v f
  | _, _, .nil, i, v, h => by simp at h
  | _, _, .cons a r, 0, v, h => by
    have e := Option.some.inj h
    subst e
    exact ⟨_, rfl, a⟩
  | _, _, .cons a r, i + 1, v, h => r.get i v h
theorem GoodP.mono {v : V} {q : List Fc} (m : ∀ b xs, SqT K H b xs → SqT K H' b xs) (g : GoodP K H z v q) : GoodP K H' z v q := ⟨g.isp.mono m, g.ok, g.len⟩
theorem IsPs.mono (m : ∀ b xs, SqT K H b xs → SqT K H' b xs) : ∀ {vs : List V} {fs : List (List Fc)}, IsPs K H z vs fs → IsPs K H' z vs fs
  | _, _, .nil => .nil
  | _, _, .cons a r => .cons (a.mono m) (r.mono m)
theorem IsPs.dp : ∀ {vs : List V} {fs : List (List Fc)}, IsPs K H z vs fs → DpAll K H vs (fs.map pD)
  | _, _, .nil => .nil
  | _, _, .cons h r => .cons h.isp.dp r.dp
end
theorem lay_fs {z : Str} (al : Alph z) : ∀ fs : List Fc, (∀ f ∈ fs, FOk z f) → PyData.canLayAll0 (fs.map fD) = true ∧ PyData.depthAll (fs.map fD) ≤ 1
  | [], _ => ⟨rfl, by simp [PyData.depthAll]⟩
  | f :: fs, h => by
    obtain ⟨h1, h2⟩ := lay_fs al fs fun g hg => h g (List.mem_cons_of_mem _ hg)
    have hf := fD_shaped (fok_low al (h f List.mem_cons_self))
    unfold SeqAt.shaped at hf
    rw [Bool.and_eq_true] at hf
    have d1 : (fD f).depth ≤ 1 := by simp [fD, PyData.depth, PyData.depthAll]
    rw [List.map_cons]
    refine ⟨by simp only [PyData.canLayAll0, hf.1, h1, Bool.and_self], ?_⟩
    simp only [PyData.depthAll]
    omega
theorem lay_ps {z : Str} (al : Alph z) : ∀ qs : List (List Fc), (∀ q ∈ qs, ∀ f ∈ q, FOk z f) → PyData.canLayAll0 (qs.map pD) = true ∧ PyData.depthAll (qs.map pD) ≤ 2
  | [], _ => ⟨rfl, by simp [PyData.depthAll]⟩
  | q :: qs, h => by
    obtain ⟨h1, h2⟩ := lay_ps al qs fun g hg => h g (List.mem_cons_of_mem _ hg)
    obtain ⟨h3, h4⟩ := lay_fs al q (h q List.mem_cons_self)
    rw [List.map_cons]
    refine ⟨by simp only [PyData.canLayAll0, pD, PyData.canLay0, h3, h1, Bool.and_self], ?_⟩
    simp only [PyData.depthAll, pD, PyData.depth]
    omega
theorem ps_shaped {z : Str} (al : Alph z) {qs : List (List Fc)} (h : ∀ q ∈ qs, ∀ f ∈ q, FOk z f) : SeqAt.shaped (.list (qs.map pD)) = true := by
  obtain ⟨h1, h2⟩ := lay_ps al qs h
  unfold SeqAt.shaped
  rw [Bool.and_eq_true]
  refine ⟨by simp only [PyData.canLay0, h1], decide_eq_true ?_⟩
  simp only [PyData.depth]
  omega
theorem nil_shaped : SeqAt.shaped (.list []) = true := by decide +kernel
theorem eqv_nil (ds : List PyData) : PyData.eqv (.list ds) (.list []) = ds.isEmpty := by
  cases ds <;> simp [PyData.eqv, PyData.eqvAll]
theorem IsPs.oks {K : PySem.W.Frag} {H : Hp} {z : Str} : ∀ {vs : List V} {fs : List (List Fc)}, IsPs K H z vs fs → ∀ q ∈ fs, (∀ f ∈ q, FOk z f) ∧ q.length ≤ 6
  | _, _, .nil, q, h => (nomatch h)
  | _, _, .cons a r, q, h => by
    rcases List.mem_cons.mp h with e | e
    · rw [e]
      exact ⟨a.ok, a.len⟩
    · exact r.oks q e
/-! ### slices and sums of tuples -/
theorem sl_any {K : PySem.W.Frag} {H : Hp} {a : Addr} {xs : List V} {lo hi : Option Int} {Q : VK} (ha : SqT K H a xs) (k : ∀ H' a', Same H H' → SqT K H' a' (cutV xs lo hi) → Q (.ref a') H') : rSlA K (.ref a) lo hi H Q := by
  refine ⟨a, xs, rfl, ha, fun h => k H a (Same.refl _) ?_, fun _ p hp => k _ p (same_upd hp) (SqT.of upd_same)⟩
  have e : cutV xs lo hi = xs := by
    unfold cutV
    rw [h.1, h.2, List.drop_zero, Nat.sub_zero, List.take_length]
  rw [e]
  exact ha
theorem cat_any {K : PySem.W.Frag} {H : Hp} {a b : Addr} {xs ys : List V} {Q : VK} (ha : SqT K H a xs) (hb : SqT K H b ys) (hl : xs.length + ys.length ≤ sizeLine) (k : ∀ H' a', Same H H' → SqT K H' a' (xs ++ ys) → Q (.ref a') H') : rCatA K (.ref a) (.ref b) H Q := by
  refine ⟨a, b, xs, ys, rfl, rfl, ha, hb, hl, fun h => k H b (Same.refl _) ?_, fun _ h => k H a (Same.refl _) ?_, fun _ _ p hp => k _ p (same_upd hp) (SqT.of upd_same)⟩
  · rw [h]
    exact hb
  · rw [h, List.append_nil]
    exact ha
theorem cut_take (xs : List V) {k : Int} (h0 : 0 ≤ k) (h : k ≤ xs.length) : cutV xs none (some k) = xs.take k.toNat := by
  obtain ⟨n, rfl⟩ := Int.eq_ofNat_of_zero_le h0
  unfold cutV
  rw [HT.sIx_none, HT.sIx_nat, List.drop_zero, Nat.sub_zero, Nat.min_eq_left (by omega)]
  rfl
theorem cut_drop (xs : List V) {k : Int} (h0 : 0 ≤ k) : cutV xs (some k) none = xs.drop k.toNat := by
  obtain ⟨n, rfl⟩ := Int.eq_ofNat_of_zero_le h0
  unfold cutV
  rw [HT.sIx_none, HT.sIx_nat]
  show List.take _ (List.drop (min n xs.length) xs) = xs.drop n
  by_cases c : n ≤ xs.length
  · rw [Nat.min_eq_left c]
    exact List.take_of_length_le (by rw [List.length_drop]; omega)
  · rw [Nat.min_eq_right (by omega), List.drop_length, List.drop_of_length_le (by omega), List.take_nil]
theorem IsFs.app {K : PySem.W.Frag} {H : Hp} : ∀ {vs us : List V} {fs gs : List Fc}, IsFs K H vs fs → IsFs K H us gs → IsFs K H (vs ++ us) (fs ++ gs)
  | _, _, _, _, .nil, h => h
  | _, _, _, _, .cons a r, h => .cons a (r.app h)
theorem IsFs.take {K : PySem.W.Frag} {H : Hp} : ∀ {vs : List V} {fs : List Fc} (n : Nat), IsFs K H vs fs → IsFs K H (vs.take n) (fs.take n)
  | _, _, 0, _ => .nil
  | _, _, _ + 1, .nil => .nil
  | _, _, n + 1, .cons a r => .cons a (r.take n)
theorem IsFs.drop {K : PySem.W.Frag} {H : Hp} : ∀ {vs : List V} {fs : List Fc} (n : Nat), IsFs K H vs fs → IsFs K H (vs.drop n) (fs.drop n)
  | _, _, 0, h => h
  | _, _, _ + 1, .nil => .nil
  | _, _, n + 1, .cons a r => r.drop n
end DW
/-! lists of texts, of numbers, and products as data -/
namespace DW
open PySem PySem.Spec PyProof.Rows L2 TL
set_option autoImplicit false
def strD (ws : List Str) : PyData := .list (ws.map PyData.str)
theorem str_dpAll {K : PySem.W.Frag} {H : Hp} : ∀ ws : List Str, DpAll K H (ws.map V.str) (ws.map PyData.str)
  | [] => .nil
  | x :: r => .cons (.str _) (str_dpAll r)
theorem str_dp {K : PySem.W.Frag} {H : Hp} {a : Addr} {ws : List Str} (h : SqL K H a (ws.map V.str)) : Dp K H (.ref a) (strD ws) := .lst h (str_dpAll ws)
theorem str_ok : ∀ (ws : List Str), (∀ u ∈ ws, (tl u).length ≤ 20 ∧ ∀ c ∈ tl u, c < 128) → PyData.canLayAll0 (ws.map PyData.str) = true ∧ PyData.depthAll (ws.map PyData.str) = 0 ∧ PyData.weightAll (ws.map PyData.str) ≤ 21 * ws.length ∧
    PyData.showableAll (ws.map PyData.str) = true ∧ PyData.hasDictAll (ws.map PyData.str) = false ∧ PyData.intsShortAll 13 (ws.map PyData.str) = true
  | [], _ => ⟨rfl, rfl, Nat.le_refl _, rfl, rfl, rfl⟩
  | u :: r, h => by
    obtain ⟨h1, h2, h3, h4, h5, h6⟩ := str_ok r fun q hq => h q (List.mem_cons_of_mem _ hq)
    obtain ⟨ul, uc⟩ := h u List.mem_cons_self
    have us : u.cps.size = (tl u).length := (Array.length_toList).symm
    have so : PyData.strOk u = true := by
      unfold PyData.strOk
      rw [Array.all_eq_true]
      intro i hi
      have := uc u.cps[i] (by show u.cps[i] ∈ u.cps.toList; rw [Array.mem_toList_iff]; exact Array.getElem_mem hi)
      exact decide_eq_true (by omega)
    rw [List.map_cons]
    refine ⟨by simp only [PyData.canLayAll0, PyData.canLay0, so, h1, Bool.and_self], by simp only [PyData.depthAll, PyData.depth, h2]; rfl, ?_, by simp only [PyData.showableAll, PyData.showable, h4, Bool.and_self], by simp only [PyData.hasDictAll, PyData.hasDict, h5, Bool.or_self], by simp only [PyData.intsShortAll, PyData.intsShort, h6, Bool.and_self]⟩
    simp only [PyData.weightAll, PyData.weight, List.length_cons]
    omega
theorem str_shaped {ws : List Str} (h : ∀ u ∈ ws, (tl u).length ≤ 20 ∧ ∀ c ∈ tl u, c < 128) : SeqAt.shaped (strD ws) = true := by
  obtain ⟨h1, h2, _⟩ := str_ok ws h
  unfold SeqAt.shaped strD
  rw [Bool.and_eq_true]
  exact ⟨by simp only [PyData.canLay0, h1], decide_eq_true (by simp only [PyData.depth, h2]; omega)⟩
theorem str_eqv {ws : List Str} (h : ∀ u ∈ ws, (tl u).length ≤ 20 ∧ ∀ c ∈ tl u, c < 128) : PyData.eqv (strD ws) (strD ws) = true := by
  obtain ⟨h1, _⟩ := str_ok ws h
  exact PySem.SeqAt.eqv_refl _ (by unfold strD; simp only [PyData.canLay0, h1])
theorem str_eqv_nil (ws : List Str) : PyData.eqv (strD ws) (.list []) = ws.isEmpty := by
  unfold strD
  cases ws <;> simp [PyData.eqv, PyData.eqvAll]
theorem nat_uniq : ∀ (l m : List Nat), l.Pairwise (· < ·) → m.Pairwise (· < ·) → (∀ k, k ∈ l ↔ k ∈ m) → l = m
  | [], [], _, _, _ => rfl
  | [], b :: m, _, _, h => by
    have := (h b).mpr List.mem_cons_self
    cases this
  | a :: l, [], _, _, h => by
    have := (h a).mp List.mem_cons_self
    cases this
  | a :: l, b :: m, p, q, h => by
    obtain ⟨pa, p'⟩ := List.pairwise_cons.mp p
    obtain ⟨qb, q'⟩ := List.pairwise_cons.mp q
    have ab : a = b := by
      rcases List.mem_cons.mp ((h a).mp List.mem_cons_self) with e | e
      · exact e
      · rcases List.mem_cons.mp ((h b).mpr List.mem_cons_self) with f | f
        · exact f.symm
        · have h1 := pa b f
          have h2 := qb a e
          omega
    subst ab
    have e := nat_uniq l m p' q' fun k => by
      constructor
      · intro hk
        rcases List.mem_cons.mp ((h k).mp (List.mem_cons_of_mem _ hk)) with e | e
        · have := pa k hk
          omega
        · exact e
      · intro hk
        rcases List.mem_cons.mp ((h k).mpr (List.mem_cons_of_mem _ hk)) with e | e
        · have := qb k hk
          omega
        · exact e
    rw [e]
theorem ones_ok {cs : List Nat} (h : ∀ c ∈ cs, c < 128) : ∀ u ∈ cs.map one, (tl u).length ≤ 20 ∧ ∀ c ∈ tl u, c < 128 := fun u hu => by
  obtain ⟨c, hc, rfl⟩ := List.mem_map.mp hu
  rw [tl_one]
  exact ⟨by show 1 ≤ 20; decide, fun d hd => by rw [List.mem_singleton.mp hd]; exact h c hc⟩
def intD (ns : List Int) : PyData := .list (ns.map PyData.int)
theorem int_dpAll {K : PySem.W.Frag} {H : Hp} : ∀ ns : List Int, DpAll K H (ns.map V.int) (ns.map PyData.int)
  | [] => .nil
  | x :: r => .cons (.int _) (int_dpAll r)
theorem int_dp {K : PySem.W.Frag} {H : Hp} {a : Addr} {ns : List Int} (h : SqL K H a (ns.map V.int)) : Dp K H (.ref a) (intD ns) := .lst h (int_dpAll ns)
theorem int_ok : ∀ ns : List Int, PyData.canLayAll0 (ns.map PyData.int) = true ∧ PyData.depthAll (ns.map PyData.int) = 0
  | [] => ⟨rfl, rfl⟩
  | x :: r => by
    obtain ⟨h1, h2⟩ := int_ok r
    rw [List.map_cons]
    exact ⟨by simp only [PyData.canLayAll0, PyData.canLay0, h1, Bool.and_self], by simp only [PyData.depthAll, PyData.depth, h2]; rfl⟩
theorem int_shaped (ns : List Int) : SeqAt.shaped (intD ns) = true := by
  obtain ⟨h1, h2⟩ := int_ok ns
  unfold SeqAt.shaped intD
  rw [Bool.and_eq_true]
  exact ⟨by simp only [PyData.canLay0, h1], decide_eq_true (by simp only [PyData.depth, h2]; omega)⟩
theorem int_eqv_nil (ns : List Int) : PyData.eqv (intD ns) (.list []) = ns.isEmpty := by
  unfold intD
  cases ns <;> simp [PyData.eqv, PyData.eqvAll]
theorem fs_eqv : ∀ fs gs : List Fc, PyData.eqvAll (fs.map fD) (gs.map fD) = decide (fs = gs)
  | [], [] => rfl
  | [], _ :: _ => by simp [PyData.eqvAll]
  | _ :: _, [] => by simp [PyData.eqvAll]
  | f :: fs, g :: gs => by
    rw [List.map_cons, List.map_cons]
    simp only [PyData.eqvAll]
    rw [fD_eqv, fs_eqv fs gs, Bool.eq_iff_iff]
    simp
theorem pD_eqv (fs gs : List Fc) : PyData.eqv (pD fs) (pD gs) = decide (fs = gs) := by
  unfold pD
  simp only [PyData.eqv]
  exact fs_eqv fs gs
theorem pD_shaped {z : Str} (al : Alph z) {fs : List Fc} (h : ∀ f ∈ fs, FOk z f) : SeqAt.shaped (pD fs) = true := by
  obtain ⟨h1, h2⟩ := lay_fs al fs h
  unfold SeqAt.shaped pD
  rw [Bool.and_eq_true]
  refine ⟨by simp only [PyData.canLay0, h1], decide_eq_true ?_⟩
  simp only [PyData.depth]
  omega
theorem atI_of {α : Type} {xs : List α} {i : Int} {j : Nat} {v : α} (e : i = (j : Int)) (h : xs[j]? = some v) : atI xs i = some v := by
  rw [e]
  exact atI_nat h
end DW
/-! reduced products: the stack, its words, and what put-in factors do to it -/
namespace DW
open PySem PySem.Spec PyProof.Rows L2 TL
set_option autoImplicit false
/-- the kept factors, the last one first, after one factor more -/
def stp (st : List Fc) (f : Fc) : List Fc := match st.dropWhile (sw f) with
  | [] => [f]
  | g :: r => if sw g f = true then g :: r else f :: g :: r
def red (fs : List Fc) : List Fc := (fs.foldl stp []).reverse
/-! ### words -/
theorem Lg.in_one {g : Fc} {u : List Nat} (h : Lg [g] u) : ∀ c ∈ u, c ∈ ls g := by
  intro c hc
  obtain ⟨a, b, rfl⟩ := List.append_of_mem hc
  obtain ⟨g', hg, q⟩ := (Lg.drop h).has
  rw [List.mem_singleton.mp hg] at q
  exact q
theorem sw_star {g f : Fc} (h : sw g f = true) : g.1 = true := (Bool.and_eq_true_iff.mp h).1
theorem sw_sub {g f : Fc} (h : sw g f = true) : ∀ c ∈ ls f, c ∈ ls g := fun c hc => of_decide_eq_true (List.all_eq_true.mp (Bool.and_eq_true_iff.mp h).2 c hc)
theorem sw_of {g f : Fc} (k : g.1 = true) (h : ∀ c ∈ ls f, c ∈ ls g) : sw g f = true := Bool.and_eq_true_iff.mpr ⟨k, List.all_eq_true.mpr fun c hc => decide_eq_true (h c hc)⟩
theorem sw_trans {g s m : Fc} (h : sw g s = true) (k : sw s m = true) : sw g m = true := sw_of (sw_star h) fun c hc => sw_sub h c (sw_sub k c hc)
theorem lg_cong {a b x y : List Fc} (h : ∀ u, Lg x u ↔ Lg y u) (w : List Nat) : Lg (a ++ (x ++ b)) w ↔ Lg (a ++ (y ++ b)) w := by
  constructor
  · intro q
    obtain ⟨u, v, rfl, h1, h2⟩ := q.split
    obtain ⟨u', v', rfl, h3, h4⟩ := h2.split
    exact h1.app (((h u').mp h3).app h4)
  · intro q
    obtain ⟨u, v, rfl, h1, h2⟩ := q.split
    obtain ⟨u', v', rfl, h3, h4⟩ := h2.split
    exact h1.app (((h u').mpr h3).app h4)
theorem lg_front {f g : Fc} (h : sw f g = true) (u : List Nat) : Lg [g, f] u ↔ Lg [f] u := by
  constructor
  · intro q
    obtain ⟨a, b, rfl, h1, h2⟩ := Lg.split (fs := [g]) (gs := [f]) q
    rw [Lg.one_star (sw_star h)] at h2 ⊢
    intro c hc
    rcases List.mem_append.mp hc with z | z
    · exact sw_sub h c (h1.in_one c z)
    · exact h2 c z
  · intro q
    exact .skip q
theorem lg_back {f g : Fc} (h : sw g f = true) (u : List Nat) : Lg [g, f] u ↔ Lg [g] u := by
  constructor
  · intro q
    obtain ⟨a, b, rfl, h1, h2⟩ := Lg.split (fs := [g]) (gs := [f]) q
    rw [Lg.one_star (sw_star h)] at h1 ⊢
    intro c hc
    rcases List.mem_append.mp hc with z | z
    · exact h1 c z
    · exact sw_sub h c (h2.in_one c z)
  · intro q
    have := q.app (Lg.empty [f])
    rw [List.append_nil] at this
    exact this
theorem lg_drop (f : Fc) (b : List Fc) (w : List Nat) : ∀ st : List Fc, Lg (st.reverse ++ ([f] ++ b)) w ↔ Lg ((st.dropWhile (sw f)).reverse ++ ([f] ++ b)) w
  | [] => Iff.rfl
  | g :: st => by
    rw [List.dropWhile_cons]
    by_cases h : sw f g = true
    · rw [if_pos h, ← lg_drop f b w st, List.reverse_cons, List.append_assoc]
      have := lg_cong (a := st.reverse) (b := b) (lg_front h) w
      exact this
    · rw [if_neg h]
theorem stp_lg (f : Fc) (b st : List Fc) (w : List Nat) : Lg (st.reverse ++ (f :: b)) w ↔ Lg ((stp st f).reverse ++ b) w := by
  have e := lg_drop f b w st
  rw [show ([f] ++ b) = f :: b from rfl] at e
  rw [e]
  unfold stp
  cases q : st.dropWhile (sw f) with
  | nil => exact Iff.rfl
  | cons g r =>
    show _ ↔ Lg ((if sw g f = true then g :: r else f :: g :: r).reverse ++ b) w
    by_cases h : sw g f = true
    · rw [if_pos h, List.reverse_cons, List.append_assoc, List.append_assoc]
      exact lg_cong (a := r.reverse) (b := b) (lg_back h) w
    · rw [if_neg h]
      simp
theorem fold_lg (w : List Nat) : ∀ (fs st : List Fc), Lg (st.reverse ++ fs) w ↔ Lg (fs.foldl stp st).reverse w
  | [], st => by rw [List.append_nil]; rfl
  | f :: fs, st => by
    rw [stp_lg f fs st w]
    exact fold_lg w fs (stp st f)
theorem red_lg (fs : List Fc) (w : List Nat) : Lg fs w ↔ Lg (red fs) w := fold_lg w fs []
/-! ### neighbours -/
def Apart : List Fc → Prop
  | [] => True
  | [_] => True
  | f :: g :: r => sw f g = false ∧ sw g f = false ∧ Apart (g :: r)
theorem Apart.tail {f : Fc} {r : List Fc} (h : Apart (f :: r)) : Apart r := by
  cases r with
  | nil => trivial
  | cons g r => exact h.2.2
theorem Apart.dw (p : Fc → Bool) : ∀ {st : List Fc}, Apart st → Apart (st.dropWhile p)
  | [], _ => trivial
  | g :: st, h => by
    rw [List.dropWhile_cons]
    by_cases q : p g = true
    · rw [if_pos q]
      exact Apart.dw p h.tail
    · rw [if_neg q]
      exact h
theorem dw_top {p : Fc → Bool} : ∀ {st r : List Fc} {g : Fc}, st.dropWhile p = g :: r → p g = false
  | [], _, _, h => by cases h
  | x :: st, r, g, h => by
    rw [List.dropWhile_cons] at h
    by_cases q : p x = true
    · rw [if_pos q] at h
      exact dw_top h
    · rw [if_neg q] at h
      rw [← (List.cons.inj h).1]
      simpa using q
theorem stp_apart {st : List Fc} {f : Fc} (h : Apart st) : Apart (stp st f) := by
  unfold stp
  have h' := h.dw (sw f)
  cases q : st.dropWhile (sw f) with
  | nil => trivial
  | cons g r =>
    rw [q] at h'
    show Apart (if sw g f = true then g :: r else f :: g :: r)
    by_cases k : sw g f = true
    · rw [if_pos k]
      exact h'
    · rw [if_neg k]
      exact ⟨dw_top q, by simpa using k, h'⟩
theorem fold_apart : ∀ (fs st : List Fc), Apart st → Apart (fs.foldl stp st)
  | [], _, h => h
  | f :: fs, st, h => fold_apart fs (stp st f) (stp_apart h)
theorem stp_push {f : Fc} {r : List Fc} (h : Apart (f :: r)) : stp r f = f :: r := by
  unfold stp
  cases r with
  | nil => rfl
  | cons g r =>
    rw [List.dropWhile_cons, if_neg (by rw [h.1]; simp)]
    show (if sw g f = true then _ else _) = _
    rw [if_neg (by rw [h.2.1]; simp)]
theorem fold_rev : ∀ l : List Fc, Apart l → l.reverse.foldl stp [] = l
  | [], _ => rfl
  | f :: r, h => by
    rw [List.reverse_cons, List.foldl_append, fold_rev r h.tail]
    exact stp_push h
theorem red_red (fs : List Fc) : red (red fs) = red fs := by
  unfold red
  rw [fold_rev _ (fold_apart fs [] trivial)]
/-! ### factors put in -/
theorem dw_dw {p q : Fc → Bool} (h : ∀ x, p x = true → q x = true) : ∀ l : List Fc, (l.dropWhile p).dropWhile q = l.dropWhile q
  | [] => rfl
  | x :: l => by
    rw [List.dropWhile_cons (p := p)]
    by_cases k : p x = true
    · rw [if_pos k, dw_dw h l, List.dropWhile_cons, if_pos (h x k)]
    · rw [if_neg k]
theorem pad_front {s m : Fc} (h : sw s m = true) (st : List Fc) : stp (stp st m) s = stp st s := by
  have e : (stp st m).dropWhile (sw s) = st.dropWhile (sw s) := by
    have d := dw_dw (p := sw m) (q := sw s) (fun x hx => sw_trans h hx) st
    rw [← d]
    unfold stp
    cases q : st.dropWhile (sw m) with
    | nil =>
      show [m].dropWhile (sw s) = _
      rw [List.dropWhile_cons, if_pos h]
    | cons g r =>
      show (if sw g m = true then g :: r else m :: g :: r).dropWhile (sw s) = _
      by_cases k : sw g m = true
      · rw [if_pos k]
      · rw [if_neg k, List.dropWhile_cons, if_pos h]
  unfold stp at e ⊢
  rw [e]
theorem pad_back {s m : Fc} {st : List Fc} (h : sw s m = true) (ha : Apart st) (anti : ∀ x ∈ stp st s, sw m x = true → sw x m = true → m = x) : stp (stp st s) m = stp st s := by
  have hA : Apart (stp st s) := stp_apart ha
  obtain ⟨g, r, e, k⟩ : ∃ g r, stp st s = g :: r ∧ sw g m = true := by
    unfold stp
    cases q : st.dropWhile (sw s) with
    | nil => exact ⟨s, [], rfl, h⟩
    | cons g r =>
      by_cases k : sw g s = true
      · exact ⟨g, r, if_pos k, sw_trans k h⟩
      · exact ⟨s, g :: r, if_neg k, h⟩
  rw [e] at hA anti ⊢
  by_cases q : sw m g = true
  · have em := anti g List.mem_cons_self q k
    subst em
    have e2 : stp (m :: r) m = stp r m := by
      unfold stp
      rw [List.dropWhile_cons, if_pos q]
    rw [e2]
    exact stp_push hA
  · unfold stp
    rw [List.dropWhile_cons, if_neg q]
    show (if sw g m = true then _ else _) = _
    rw [if_pos k]
theorem red_front {s m : Fc} (h : sw s m = true) (a b : List Fc) : red (a ++ m :: s :: b) = red (a ++ s :: b) := by
  unfold red
  rw [List.foldl_append, List.foldl_append]
  show (b.foldl stp (stp (stp (a.foldl stp []) m) s)).reverse = _
  rw [pad_front h]
  rfl
theorem red_back {s m : Fc} (h : sw s m = true) (a b : List Fc) (anti : ∀ x ∈ stp (a.foldl stp []) s, sw m x = true → sw x m = true → m = x) : red (a ++ s :: m :: b) = red (a ++ s :: b) := by
  unfold red
  rw [List.foldl_append, List.foldl_append]
  show (b.foldl stp (stp (stp (a.foldl stp []) s) m)).reverse = _
  rw [pad_back h (fold_apart a [] trivial) anti]
  rfl
/-! ### nothing new is kept -/
theorem stp_mem {f : Fc} {st : List Fc} {x : Fc} (h : x ∈ stp st f) : x = f ∨ x ∈ st := by
  unfold stp at h
  have dm : ∀ y, y ∈ st.dropWhile (sw f) → y ∈ st := fun y hy => (List.dropWhile_sublist _).subset hy
  cases q : st.dropWhile (sw f) with
  | nil =>
    rw [q] at h
    exact .inl (List.mem_singleton.mp h)
  | cons g r =>
    rw [q] at h dm
    have h' : x ∈ (if sw g f = true then g :: r else f :: g :: r) := h
    by_cases k : sw g f = true
    · rw [if_pos k] at h'
      exact .inr (dm x h')
    · rw [if_neg k] at h'
      rcases List.mem_cons.mp h' with z | z
      · exact .inl z
      · exact .inr (dm x z)
theorem fold_mem : ∀ (fs st : List Fc) (x : Fc), x ∈ fs.foldl stp st → x ∈ fs ∨ x ∈ st
  | [], _, _, h => .inr h
  | f :: fs, st, x, h => by
    rcases fold_mem fs (stp st f) x h with q | q
    · exact .inl (List.mem_cons_of_mem _ q)
    · rcases stp_mem q with z | z
      · exact .inl (z ▸ List.mem_cons_self)
      · exact .inr z
theorem red_mem {fs : List Fc} {x : Fc} (h : x ∈ red fs) : x ∈ fs := by
  rcases fold_mem fs [] x (List.mem_reverse.mp h) with q | q
  · exact q
  · cases q
end DW
/-! reduce_product -/
namespace DW
open PySem PySem.Spec PyProof.Rows L2 TL
set_option autoImplicit false
def spRd (K : PySem.W.Frag) : Sp := fun vs H Q _ => ∃ (v : V) (fs : List Fc), vs = [v] ∧ IsP K H v fs ∧ (∀ f ∈ fs, (ls f).length ≤ 1000) ∧ fs.length ≤ 100000 ∧ ∀ H' u, Same H H' → IsP K H' u (red fs) → Q u H'
theorem IsFs.unsnoc {K : PySem.W.Frag} {H : Hp} {g : Fc} : ∀ {fs : List Fc} {vs : List V}, IsFs K H vs (fs ++ [g]) → ∃ us v, vs = us ++ [v] ∧ IsFs K H us fs ∧ IsF K H v g := by
  intro fs
  induction fs with
  | nil =>
    intro vs h
    have h' : IsFs K H vs (g :: []) := h
    cases h' with
    | cons a r =>
      cases r
      exact ⟨[], _, rfl, .nil, a⟩
  | cons f fs ih =>
    intro vs h
    have h' : IsFs K H vs (f :: (fs ++ [g])) := h
    cases h' with
    | cons a r =>
      obtain ⟨us, v, e, h1, h2⟩ := ih r
      exact ⟨_ :: us, v, by rw [e]; rfl, .cons a h1, h2⟩
theorem stp_len (st : List Fc) (f : Fc) : (stp st f).length ≤ st.length + 1 := by
  have h := (List.dropWhile_suffix (l := st) (sw f)).length_le
  unfold stp
  split
  · simp
  · rename_i g r e
    rw [e] at h
    by_cases c : sw g f = true
    · rw [if_pos c]
      omega
    · rw [if_neg c, List.length_cons]
      omega
theorem dw_mem {p : Fc → Bool} {st : List Fc} {g : Fc} {r : List Fc} (e : st.dropWhile p = g :: r) : g ∈ st := (List.dropWhile_suffix (l := st) p).subset (by rw [e]; exact List.mem_cons_self)
section
variable {P : Program} {w : World} {K : PySem.W.Frag} {mg : Str → Option Value} {base : Heap}
theorem scRd : FnScope ["product", "kept", "factor"] ["product"] (defScope sReduceProduct) := ⟨rfl, rfl, rfl, by decide +kernel, rfl, by decide +kernel, by decide +kernel⟩
theorem ok_rd (D : Df K mg "reduce_product" sReduceProduct ["product"]) (Ds0 : Df K mg "swallows" sSwallows ["factor", "other"]) (ma : mg "all" = none) (mt : mg "tuple" = none) : FnOk P w K mg base CX0 2 D.f D.fd ["product"] (spRd K) := by
  have Gs : FnOk P w K mg base CX0 1 Ds0.f Ds0.fd ["factor", "other"] (spSw K) := ok_sw Ds0 ma
  refine D.F.ok scRd (fun vs H Q E h => ?_) (fun cdv A outer s H vs Q E hr h => ?_)
  · obtain ⟨v, fs, rfl, _⟩ := h
    rfl
  · obtain ⟨v, fs, rfl, ⟨a, xs, rfl, hq, iF⟩, fl, l1, k⟩ := h
    refine ⟨_, PSs.nox (pss_cons (ps_set (i := 1) scRd.nd rfl (.inl rfl) (pe_lst pa_nil)) (pss_cons (ps_for PassesOwn.never rfl (pi_tup (pv 0)) (pg_name (i := 2) scRd.nd rfl (.inl rfl)) (C8.pss_cut (ps_while PassesOwn.never (pw_and (pt_truth (pv 1) (by intro _; rfl)) (pw_and1 (pt_val (pe_call Gs hr (by rfl) Ds0.g Ds0.F.kp Ds0.b .nil pass0 (pa_cons (pv 2) (pa_cons (pe_ix ix_list (pv 1) (pe_un un_neg pe_int) (fun _ _ => rfl)) pa_nil)))))).pt (pss_one (ps_expr (pe_bm0 PySem.F.plainAttrs_list PySem.F.slot_list_pop PySem.F.type_list_pop mt_pop (pv 1))))) (pss_one (ps_if (pw_or (pt_not (pt_truth (pv 1) (by intro _; rfl))) (pw_or1 (pt_not (pt_val (pe_call Gs hr (by rfl) Ds0.g Ds0.F.kp Ds0.b .nil pass0 (pa_cons (pe_ix ix_list (pv 1) (pe_un un_neg pe_int) (fun _ _ => rfl)) (pa_cons (pv 2) pa_nil))))))).pt (pss_one (ps_expr (pe_bm PySem.F.plainAttrs_list PySem.F.slot_list_append PySem.F.type_list_append mt_append (pv 1) (pa_cons (pv 2) pa_nil)))) pss_nil)))) (pss_one (ps_ret (pe_callTy call_tuple_of (by rfl) mt (by decide +kernel) (pa_cons (pv 1) pa_nil)))))), ?_⟩
    refine ⟨by show 0 ≤ sizeLine; decide, fun L hL => ?_⟩
    have sL := same_upd (o := .lst []) hL
    have xl := iF.len
    refine ⟨.ref a, rfl, a, rfl, ⟨xs, same_tup sL _ _ hq⟩, for_it (walk_tup (xs := xs)) (fun i σ H' => ∃ (us : List V) (st : List Fc) (y2 : Option V), σ = [some (.ref a), some (.ref L), y2] ∧ H' L = some (.lst us) ∧ IsFs K H' us st.reverse ∧ st = (fs.take i).foldl stp [] ∧ st.length ≤ i ∧ (∀ g ∈ st, g ∈ fs) ∧ Same H H')
      ⟨[], [], _, rfl, upd_same, .nil, rfl, Nat.le_refl _, fun g hg => (nomatch hg), sL⟩ (fun _ _ H' _ ⟨_, _, _, _, _, _, _, _, _, sm⟩ => same_tup sm _ _ hq) ?_ ?_⟩
    · rintro i x σ G G' hi ⟨us, st, y2, rfl, gL, iU, est, stl, stm, sm⟩ ⟨rfl, hx⟩
      obtain ⟨f, hf, isf0⟩ := iF.get i x hx
      have fm : f ∈ fs := List.mem_of_getElem? hf
      have il : i < fs.length := by omega
      refine ⟨fun σ' H' => ∃ us : List V, σ' = [some (.ref a), some (.ref L), some x] ∧ H' L = some (.lst us) ∧ IsFs K H' us (st.dropWhile (sw f)).reverse ∧ Same H H', ?_, ?_⟩
      · refine ⟨fun m σ' H' => ∃ (us : List V) (st' : List Fc), σ' = [some (.ref a), some (.ref L), some x] ∧ H' L = some (.lst us) ∧ IsFs K H' us st'.reverse ∧ st'.dropWhile (sw f) = st.dropWhile (sw f) ∧ (∀ g ∈ st', g ∈ fs) ∧ m = st'.length ∧ Same H H', ⟨_, us, st, rfl, gL, iU, rfl, stm, rfl, sm⟩, ?_⟩
        rintro m σ' H' ⟨us, st', rfl, gL, iU, ed, stm', rfl, sm⟩
        cases st' with
        | nil =>
          cases iU
          refine ⟨.ref L, rfl, false, .inl ⟨_, SqL.of gL, rfl⟩, iteF (iteF ⟨[], rfl, gL, ?_, sm⟩)⟩
          rw [← ed]
          exact .nil
        | cons g r =>
          rw [List.reverse_cons] at iU
          obtain ⟨us0, v, rfl, iU0, isg⟩ := iU.unsnoc
          refine ⟨.ref L, rfl, true, .inl ⟨_, SqL.of gL, by simp⟩, iteT ?_⟩
          have gm := fl g (stm' g List.mem_cons_self)
          refine ⟨x, rfl, .ref L, rfl, 1, rfl, L, us0 ++ [v], -1, v, rfl, rfl, SqL.of gL, atI_last us0 v, x, v, f, g, rfl, isf0.mono (same_tup sm), isg, gm, fun H2 s2 => ⟨_, rfl, ite2 (fun e => ?_) (fun e => ?_)⟩⟩
          · refine ⟨fun σ' H' => ∃ us : List V, σ' = [some (.ref a), some (.ref L), some x] ∧ H' L = some (.lst us) ∧ IsFs K H' us r.reverse ∧ Same H H', fun σ' H' h => ?_, ?_⟩
            · obtain ⟨us, rfl, gL', iU', sm'⟩ := h
              refine ⟨r.length, by simp, us, r, rfl, gL', iU', ?_, fun g hg => stm' g (List.mem_cons_of_mem _ hg), rfl, sm'⟩
              rw [← ed, List.dropWhile_cons, if_pos e]
            · have gL2 := s2 _ _ gL
              refine ⟨.ref L, rfl, .inl ⟨rfl, _, SqL.of gL2⟩, L, us0 ++ [v], v, rfl, rfl, gL2, by simp, us0, rfl, ?_, (iU0.mono (same_tup s2)).mono (upd_tup gL2), fun b o e => (upd_ne (ne_of_none e hL)).trans ((sm.trans s2) _ _ e)⟩
              rw [upd_same, List.dropLast_concat]
          · have e' : sw f g = false := by simpa using e
            refine ⟨us0 ++ [v], rfl, s2 _ _ gL, ?_, sm.trans s2⟩
            rw [← ed, List.dropWhile_cons, if_neg e, List.reverse_cons]
            exact (iU0.snoc isg).mono (same_tup s2)
      · rintro σ' H' ⟨us, rfl, gL, iU, sm⟩
        have tk : (fs.take (i + 1)).foldl stp [] = stp st f := by
          rw [List.take_add_one, hf, est]
          exact List.foldl_append
        have sl := stp_len st f
        have smem : ∀ g ∈ stp st f, g ∈ fs := fun g hg => by
          rcases stp_mem hg with q | q
          · rw [q]; exact fm
          · exact stm g q
        have push : ∀ {H2 : Hp}, H2 L = some (.lst us) → IsFs K H2 us (st.dropWhile (sw f)).reverse → Same H H2 → stp st f = f :: st.dropWhile (sw f) →
            ∃ (us' : List V) (st' : List Fc) (y2 : Option V), [some (V.ref a), some (.ref L), some x] = [some (.ref a), some (.ref L), y2] ∧ (upd H2 L (.lst (us ++ [x]))) L = some (.lst us') ∧ IsFs K (upd H2 L (.lst (us ++ [x]))) us' st'.reverse ∧ st' = (fs.take (i + 1)).foldl stp [] ∧ st'.length ≤ i + 1 ∧ (∀ g ∈ st', g ∈ fs) ∧ Same H (upd H2 L (.lst (us ++ [x]))) := by
          intro H2 gL2 iU2 sm2 e
          refine ⟨us ++ [x], stp st f, _, rfl, upd_same, ?_, tk.symm, by omega, smem, fun b o e => (upd_ne (ne_of_none e hL)).trans (sm2 _ _ e)⟩
          rw [e, List.reverse_cons]
          exact (iU2.snoc (isf0.mono (same_tup sm2))).mono (upd_tup gL2)
        have usl : us.length < sizeLine := by
          rw [iU.len, List.length_reverse, sizeLine_eq]
          have := (List.dropWhile_suffix (l := st) (sw f)).length_le
          omega
        cases ew : st.dropWhile (sw f) with
        | nil =>
          rw [ew] at iU
          cases iU
          refine ⟨.ref L, rfl, false, .inl ⟨_, SqL.of gL, rfl⟩, iteT ?_⟩
          refine iteT ?_
          refine ⟨.ref L, rfl, .inl ⟨rfl, _, SqL.of gL⟩, x, rfl, L, _, _, rfl, rfl, gL, usl, ?_⟩
          refine push gL (by rw [ew]; exact .nil) sm ?_
          unfold stp
          rw [ew]
        | cons g r =>
          rw [ew, List.reverse_cons] at iU
          obtain ⟨us0, v, rfl, iU0, isg⟩ := iU.unsnoc
          refine ⟨.ref L, rfl, true, .inl ⟨_, SqL.of gL, by simp⟩, iteF ?_⟩
          refine ⟨.ref L, rfl, 1, rfl, L, us0 ++ [v], -1, v, rfl, rfl, SqL.of gL, atI_last us0 v, x, rfl, v, x, g, f, rfl, isg, isf0.mono (same_tup sm), fl f fm, fun H2 s2 => ⟨_, rfl, ?_⟩⟩
          have gL2 := s2 _ _ gL
          have iU2 : IsFs K H2 (us0 ++ [v]) (st.dropWhile (sw f)).reverse := by
            rw [ew, List.reverse_cons]
            exact (iU0.snoc isg).mono (same_tup s2)
          refine ite2 (fun e => ?_) (fun e => ?_)
          · have e' : sw g f = false := by simpa using e
            refine ⟨.ref L, rfl, .inl ⟨rfl, _, SqL.of gL2⟩, x, rfl, L, _, _, rfl, rfl, gL2, usl, ?_⟩
            refine push gL2 iU2 (sm.trans s2) ?_
            unfold stp
            rw [ew]
            show (if sw g f = true then _ else _) = _
            rw [if_neg (by rw [e']; simp)]
          · have e' : sw g f = true := by simpa using e
            have est' : stp st f = st.dropWhile (sw f) := by
              unfold stp
              rw [ew]
              show (if sw g f = true then _ else _) = _
              rw [if_pos e']
            refine ⟨us0 ++ [v], stp st f, _, rfl, gL2, ?_, tk.symm, by omega, smem, sm.trans s2⟩
            rw [est']
            exact iU2
    · rintro σ G ⟨us, st, y2, rfl, gL, iU, est, stl, stm, sm⟩
      refine ⟨.ref L, rfl, L, us, rfl, .inl ⟨SqL.of gL, fun p hp => ?_⟩⟩
      have sp := same_upd (o := .tup us) hp
      refine k _ _ (sm.trans sp) ⟨p, us, rfl, SqT.of upd_same, ?_⟩
      have e : red fs = st.reverse := by
        unfold red
        rw [est, xl, List.take_length]
      rw [e]
      exact iU.mono (same_tup sp)
end
end DW
/-! dicts whose keys are tuples at any depth (to eight): of numbers, texts, None and such tuples -/
namespace ND
open PySem PySem.Spec PyProof.Rows L2
set_option autoImplicit false
/-! ### keys -/
mutual
inductive NK (K : PySem.W.Frag) (H : Hp) : NestedKey → V → Prop
  | none : NK K H .none .non
  | num (i : Int) : NK K H (.num i) (.int i)
  | text (x : Str) : NK K H (.text x) (.str x)
  | tup {a : Addr} {vs : List V} {ks : List NestedKey} : SqT K H a vs → NKs K H ks vs → NK K H (.tup ks) (.ref a)
inductive NKs (K : PySem.W.Frag) (H : Hp) : List NestedKey → List V → Prop
  | nil : NKs K H [] []
  | cons {k : NestedKey} {v : V} {ks : List NestedKey} {vs : List V} : NK K H k v → NKs K H ks vs → NKs K H (k :: ks) (v :: vs)
end
mutual
theorem NK.mono {K : PySem.W.Frag} {H H' : Hp} (m : ∀ b xs, SqT K H b xs → SqT K H' b xs) : ∀ (k : NestedKey) (v : V), NK K H k v → NK K H' k v
  | .none, _, h => by cases h; exact .none
  | .num i, _, h => by cases h; exact .num i
  | .text x, _, h => by cases h; exact .text x
  | .tup ks, _, h => by
    cases h with
    | tup q r => exact .tup (m _ _ q) (NKs.mono m ks _ r)
theorem NKs.mono {K : PySem.W.Frag} {H H' : Hp} (m : ∀ b xs, SqT K H b xs → SqT K H' b xs) : ∀ (ks : List NestedKey) (vs : List V), NKs K H ks vs → NKs K H' ks vs
  | [], _, h => by cases h; exact .nil
  | k :: ks, _, h => by
    cases h with
    | cons a r => exact .cons (NK.mono m k _ a) (NKs.mono m ks _ r)
end
section
variable {X : Cx} {pins : List (Addr × Obj)} {σ : L2.St} {H : Hp} {s : Shared}
mutual
theorem nk_is (I : Inv X pins σ H s) : ∀ (k : NestedKey) (v : V) (u : Value), NK X.K H k v → RelV v u → NestedIs s.heap k u
  | .none, _, u, h, r => by
    cases h
    obtain rfl : u = Value.none := r
    exact .none
  | .num i, _, u, h, r => by
    cases h
    obtain ⟨t, rfl⟩ : ∃ t, u = Value.int i t := r
    exact .int i t
  | .text x, _, u, h, r => by
    cases h
    obtain ⟨t, rfl⟩ : ∃ t, u = Value.str x t := r
    exact .text x t
  | .tup ks, _, u, h, r => by
    cases h with
    | @tup a vs _ q rest =>
      obtain rfl : u = Value.ref a := r
      obtain ⟨its, rv, ⟨o, ho, hc, n, hd⟩, _⟩ := I.tuple q
      exact .tup ho hc hd (by simpa using nks_is I ks vs its rest rv)
theorem nks_is (I : Inv X pins σ H s) : ∀ (ks : List NestedKey) (vs : List V) (us : List Value), NKs X.K H ks vs → Vals vs us → NestedAll s.heap ks us
  | [], _, us, h, r => by
    cases h
    cases r
    exact .nil
  | k :: ks, _, us, h, r => by
    cases h with
    | cons a rest =>
      cases r with
      | cons ra rr => exact .cons (nk_is I k _ _ a ra) (nks_is I ks _ _ rest rr)
end
end
/-! ### the dict -/
abbrev Ent : Type := NestedKey × Addr × V
abbrev Raw : Type := NestedKey × Addr × Value
def KN : List Ent → List Raw → Prop := Paired fun (p : Ent) (q : Raw) => p.1 = q.1 ∧ p.2.1 = q.2.1 ∧ RelV p.2.2 q.2.2
def DO (P : Program) (w : World) (d : Addr) (kvs : List Ent) : HO := .ext fun h => (d == sysModules) = false ∧ kvs.length ≤ sizeLine ∧ ∃ xs : List Raw, KN kvs xs ∧
  ∃ (o : Obj) (es : Array DictEntry) (ep : Nat), h.get? d = some o ∧ o.ExactDict ∧ o.data = .dict es ep ∧ es.toList = xs.map (entryOfKey (nestedKind P w)) ∧ (xs.map (·.1)).Nodup
def KOks (K : PySem.W.Frag) (H : Hp) (kvs : List Ent) : Prop := ∀ p ∈ kvs, NK K H p.1 (.ref p.2.1) ∧ p.1.depth ≤ 8
theorem KOks.mono {K : PySem.W.Frag} {H H' : Hp} {kvs : List Ent} (h : KOks K H kvs) (m : ∀ b xs, SqT K H b xs → SqT K H' b xs) : KOks K H' kvs := fun p hp => ⟨NK.mono m _ _ (h p hp).1, (h p hp).2⟩
def valN (kvs : List Ent) (k : NestedKey) : Option V := (kvs.find? fun p => decide (p.1 = k)).map (·.2.2)
def setN (k : NestedKey) (v : V) (p : Ent) : Ent := if p.1 = k then (p.1, p.2.1, v) else p
def putN (kvs : List Ent) (k : NestedKey) (b : Addr) (v : V) : List Ent := if (valN kvs k).isSome = true then kvs.map (setN k v) else kvs ++ [(k, b, v)]
theorem KN.len : ∀ {kvs : List Ent} {xs : List Raw}, KN kvs xs → kvs.length = xs.length
  | _, _, .nil => rfl
  | _, _, .cons _ r => by rw [List.length_cons, List.length_cons, KN.len r]
theorem KN.val {k : NestedKey} : ∀ {kvs : List Ent} {xs : List Raw}, KN kvs xs → RelO (valN kvs k) ((atKey xs k).map (·.2))
  | _, _, .nil => by exact True.intro
  | _, _, @Paired.cons _ _ _ p q ps qs h r => by
    have ih := KN.val (k := k) r
    unfold valN atKey at ih ⊢
    by_cases c : p.1 = k
    · rw [List.find?_cons_of_pos (by exact decide_eq_true c), List.find?_cons_of_pos (by rw [← h.1]; exact decide_eq_true c)]
      exact h.2.2
    · rw [List.find?_cons_of_neg (by simpa using c), List.find?_cons_of_neg (by rw [← h.1]; simpa using c)]
      exact ih
theorem KN.rep {k : NestedKey} {v : V} {r : Value} (rv : RelV v r) : ∀ {kvs : List Ent} {xs : List Raw}, KN kvs xs → KN (kvs.map (setN k v)) (xs.map (putAt k r))
  | _, _, .nil => .nil
  | _, _, @Paired.cons _ _ _ p q ps qs h t => by
    refine .cons ?_ (KN.rep rv t)
    unfold setN putAt
    by_cases c : p.1 = k
    · rw [if_pos c, if_pos (by rw [← h.1]; exact c)]
      exact ⟨h.1, h.2.1, rv⟩
    · rw [if_neg c, if_neg (by rw [← h.1]; exact c)]
      exact h
theorem KN.snoc {p : Ent} {q : Raw} (h : p.1 = q.1 ∧ p.2.1 = q.2.1 ∧ RelV p.2.2 q.2.2) : ∀ {kvs : List Ent} {xs : List Raw}, KN kvs xs → KN (kvs ++ [p]) (xs ++ [q])
  | _, _, .nil => .cons h .nil
  | _, _, .cons a r => .cons a (KN.snoc h r)
theorem KN.put {k : NestedKey} {b : Addr} {v : V} {r : Value} (rv : RelV v r) {kvs : List Ent} {xs : List Raw} (h : KN kvs xs) : KN (putN kvs k b v) (storedH xs k b r) := by
  have e := (KN.val (k := k) h).isSome_eq
  rw [Option.isSome_map] at e
  unfold putN storedH
  rw [e]
  by_cases q : (atKey xs k).isSome = true
  · rw [if_pos q, if_pos q]
    exact h.rep rv
  · rw [if_neg q, if_neg q]
    exact h.snoc ⟨rfl, rfl, rv⟩
theorem putN_len (kvs : List Ent) (k : NestedKey) (b : Addr) (v : V) : (putN kvs k b v).length ≤ kvs.length + 1 := by
  unfold putN
  split
  · rw [List.length_map]
    omega
  · rw [List.length_append]
    exact Nat.le_refl _
theorem putN_ok {K : PySem.W.Frag} {H : Hp} {kvs : List Ent} {k : NestedKey} {b : Addr} {v : V} (h : KOks K H kvs) (hk : NK K H k (.ref b)) (hd : k.depth ≤ 8) : KOks K H (putN kvs k b v) := by
  unfold putN
  split
  · intro p hp
    obtain ⟨q, hq, rfl⟩ := List.mem_map.mp hp
    unfold setN
    split
    · exact h q hq
    · exact h q hq
  · intro p hp
    rcases List.mem_append.mp hp with q | q
    · exact h p q
    · rw [List.mem_singleton.mp q]
      exact ⟨hk, hd⟩
theorem do_new {P : Program} {w : World} {H : Hp} {h : Heap} {d : Addr} {kvs : List Ent} {xs : List Raw} (hs : (d == sysModules) = false) (hl : kvs.length ≤ sizeLine) (r : KN kvs xs) (dd : h.DictOfH (nestedKind P w) d xs) : ObjOk P w H h d (DO P w d kvs) := by
  obtain ⟨o, es, ep, h1, h2, h3, h4, _, h5⟩ := dd
  refine ⟨⟨hs, hl, xs, r, o, es, ep, h1, h2, h3, h4, h5⟩, ⟨o, h1⟩, ?_⟩
  rintro g1 g2 ⟨hs, hl, xs, r, o, es, ep, h1, h2⟩ kk
  exact ⟨hs, hl, xs, r, o, es, ep, kk o h1, h2⟩
section
variable {X : Cx} {pins : List (Addr × Obj)} {σ : L2.St} {H : Hp} {s : Shared} {d b : Addr} {kvs : List Ent} {k : NestedKey} {A : Around} {E : Value → Shared → Prop}
theorem do_at (I : Inv X pins σ H s) (e : Rd H d (DO X.prog X.w d kvs)) (ko : KOks X.K H kvs) : (d == sysModules) = false ∧ kvs.length ≤ sizeLine ∧ ∃ xs : List Raw, KN kvs xs ∧ s.heap.DictOfH (nestedKind X.prog X.w) d xs := by
  obtain ⟨⟨hs, hl, xs, r, o, es, ep, h1, h2, h3, h4, h5⟩, _, _⟩ := e.ok I.hok
  refine ⟨hs, hl, xs, r, o, es, ep, h1, h2, h3, h4, ?_, h5⟩
  have all : ∀ {l : List Ent} {m : List Raw}, KN l m → KOks X.K H l → ∀ x ∈ m, (nestedKind X.prog X.w).is s.heap x.1 x.2.1 := by
    intro l m q
    induction q with
    | nil => intro _ x hx; exact nomatch hx
    | @cons p q ps qs hq t ih =>
      intro ok x hx
      rcases List.mem_cons.mp hx with z | z
      · subst z
        obtain ⟨h1, h2⟩ := ok p List.mem_cons_self
        refine ⟨?_, by rw [← hq.1]; exact h2⟩
        rw [← hq.1, ← hq.2.1]
        exact nk_is I _ _ _ h1 rfl
      · exact ih (fun p hp => ok p (List.mem_cons_of_mem _ hp)) x z
  exact all r ko
theorem key_at (I : Inv X pins σ H s) (hk : NK X.K H k (.ref b)) (hd : k.depth ≤ 8) : (nestedKind X.prog X.w).is s.heap k b := ⟨nk_is I _ _ _ hk rfl, hd⟩
theorem room_at (hu : A.units + 9 < cLine) : (nestedKind X.prog X.w).room A.in1 := by
  show A.in1.units + 8 < cLine
  have : A.in1.units ≤ A.units + 1 := by first | exact Nat.le_refl _ | (unfold Around.in1; simp)
  omega
end
/-! ### rules -/
/-- {} -/
def tNewN (P : Program) (w : World) : TE := fun _ H Q => ∀ p, H p = none → Q (.ref p) (upd H p (DO P w p []))
theorem pe_dnewN {X : Cx} {pos : Pos} : PE X (.Dict [] [] pos) (tNewN X.prog X.w) := ⟨fun pins s σ H Q I h => by
  refine wpAny_Dict_empty ⟨.ref s.heap.objs.size, upd H s.heap.objs.size (DO X.prog X.w s.heap.objs.size []), ?_, rfl, h _ (I.hok.fresh (Nat.le_refl _))⟩
  refine I.laid (t' := s.toks) (fun _ _ q => Heap.get?_push_of_some _ q) (Nat.le_refl _) ?_
  exact do_new (xs := []) (beq_eq_false_iff_ne.mpr (Ne.symm (Nat.ne_of_lt I.big))) (Nat.zero_le _) .nil (Heap.DictOfH.new s.heap)⟩
/-- what is asked of a dict and a key -/
structure At (X : Cx) (H : Hp) (d b : Addr) (kvs : List Ent) (k : NestedKey) : Prop where
  dic : Rd H d (DO X.prog X.w d kvs)
  oks : KOks X.K H kvs
  key : NK X.K H k (.ref b)
  dep : k.depth ≤ 8
section
variable {X : Cx} {o i value e f : Expr} {td ty tv tx : TE} {pos pos' apos cpos : Pos}
def tGetN (X : Cx) (td ty : TE) : TE := fun σ H Q => td σ H fun x H1 => ty σ H1 fun y H2 => ∃ (d b : Addr) (kvs : List Ent) (k : NestedKey) (v : V), x = .ref d ∧ y = .ref b ∧ At X H2 d b kvs k ∧ valN kvs k = some v ∧ Q v H2
theorem pe_dgetN (hu : X.A.units + 9 < cLine) (ho : PE X o td) (hi : PE X i ty) (hs : NoSl i) : PE X (.Subscript o i pos) (tGetN X td ty) := by
  refine ⟨fun pins s σ H Q I h => ?_⟩
  refine subD_of PySem.F.slot_dict_getitem.lookup hs (thn (ho.run pins s σ H _ I h) fun u s1 ⟨x, H1, I1, rx, q1⟩ => thn (hi.run pins s1 σ H1 _ I1 q1) fun iv s2 ⟨y, H2, I2, ry, d, b, kvs, k, v, ex, ey, g, hv, q2⟩ => ?_)
  subst ex ey
  obtain rfl : u = Value.ref d := rx
  obtain rfl : iv = Value.ref b := ry
  obtain ⟨_, _, xs, r, dd⟩ := do_at I2 g.dic g.oks
  obtain ⟨w', hw, rw'⟩ := RelO.some_of (v := v) (o := (atKey xs k).map (·.2)) (by rw [← hv]; exact r.val)
  obtain ⟨p, hp, hp2⟩ := Option.map_eq_some_iff.mp hw
  refine ⟨dd.typeIs, wpAny_getItem_heap (room_at hu) (key_at I2 g.key g.dep) dd hp ?_⟩
  rw [hp2]
  exact ⟨v, H2, I2.tok _, rw', q2⟩
def rInN (X : Cx) (neg : Bool) : R2 := fun y x H Q => ∃ (d b : Addr) (kvs : List Ent) (k : NestedKey), x = .ref d ∧ y = .ref b ∧ At X H d b kvs k ∧ Q (.bl (if neg = true then !(valN kvs k).isSome else (valN kvs k).isSome)) H
theorem op_inN (hu : X.A.units + 9 < cLine) : OpR X (compareOp .In) (rInN X false) := by
  intro pins s σ H y x iv u Q I ry rx h
  obtain ⟨d, b, kvs, k, ex, ey, g, q⟩ := h
  subst ex ey
  obtain rfl : u = Value.ref d := rx
  obtain rfl : iv = Value.ref b := ry
  obtain ⟨hs, _, xs, r, dd⟩ := do_at I g.dic g.oks
  refine wpAny_in_heap (room_at hu) (key_at I g.key g.dep) hs dd ?_
  have z := (KN.val (k := k) r).isSome_eq
  rw [Option.isSome_map] at z
  exact ⟨.bl (valN kvs k).isSome, H, I.tok _, by rw [z]; rfl, q⟩
theorem op_notInN (hu : X.A.units + 9 < cLine) : OpR X (compareOp .NotIn) (rInN X true) := by
  intro pins s σ H y x iv u Q I ry rx h
  obtain ⟨d, b, kvs, k, ex, ey, g, q⟩ := h
  subst ex ey
  obtain rfl : u = Value.ref d := rx
  obtain rfl : iv = Value.ref b := ry
  obtain ⟨hs, _, xs, r, dd⟩ := do_at I g.dic g.oks
  refine wpAny_notIn_heap (room_at hu) (key_at I g.key g.dep) hs dd ?_
  have z := (KN.val (k := k) r).isSome_eq
  rw [Option.isSome_map] at z
  exact ⟨.bl (!(valN kvs k).isSome), H, I.tok _, by rw [z]; rfl, q⟩
def sPutN (X : Cx) (td ty tv : TE) : TS := fun D σ H => tv σ H fun v H1 => td σ H1 fun x H2 => ty σ H2 fun y H3 => ∃ (d b : Addr) (kvs : List Ent) (k : NestedKey), x = .ref d ∧ y = .ref b ∧ H3 d = some (DO X.prog X.w d kvs) ∧ KOks X.K H3 kvs ∧ NK X.K H3 k (.ref b) ∧ k.depth ≤ 8 ∧ kvs.length < sizeLine ∧
  D.nx σ (upd H3 d (DO X.prog X.w d (putN kvs k b v)))
theorem ps_dputN (hu : X.A.units + 9 < cLine) (ho : PE X o td) (hi : PE X i ty) (hv : PE X value tv) (hs : swapsWith value (some (.Subscript o i pos')) pos.line X.env = pure false) : PS X (.Assign [.Subscript o i pos'] value pos) (sPutN X td ty tv) := by
  refine ⟨fun pins s σ H D I h => ?_⟩
  refine wpAny_Assign_Subscript (thn (hv.run pins s σ H _ I h) fun r s1 ⟨v, H1, I1, rv, q1⟩ => thn (ho.run pins s1 σ H1 _ I1 q1) fun u s2 ⟨x, H2, I2, rx, q2⟩ => thn (hi.run pins s2 σ H2 _ I2 q2) fun iv s3 ⟨y, H3, I3, ry, d, b, kvs, k, ex, ey, hd, ok, hk, dp, hl, q3⟩ => ?_) hs
  subst ex ey
  obtain rfl : u = Value.ref d := rx
  obtain rfl : iv = Value.ref b := ry
  obtain ⟨h1, _, xs, rel, dd⟩ := do_at I3 (.inl hd) ok
  have hz : xs.length ≤ sizeLine := by
    rw [← rel.len]
    omega
  refine wpAny_setItem_heap (hsz := hz) (room_at hu) (key_at I3 hk dp) dd fun h' dd' same => ⟨σ, _, ?_, q3⟩
  have pl := putN_len kvs k b v
  have he : ∃ q, h'.get? d = some q := by
    obtain ⟨q, _, _, hq, _⟩ := dd'
    exact ⟨q, hq⟩
  exact d_write I3 (by rw [hd]; exact True.intro) same he (do_new h1 (by omega) (rel.put rv) dd')
def tSetdN (X : Cx) (td ty tx : TE) : TE := fun σ H Q => td σ H fun x H1 => ∃ d kvs0, x = .ref d ∧ H1 d = some (DO X.prog X.w d kvs0) ∧ KOks X.K H1 kvs0 ∧ ty σ H1 fun y H2 => tx σ H2 fun z H3 => ∃ (b : Addr) (kvs : List Ent) (k : NestedKey), y = .ref b ∧
  H3 d = some (DO X.prog X.w d kvs) ∧ KOks X.K H3 kvs ∧ NK X.K H3 k (.ref b) ∧ k.depth ≤ 8 ∧ kvs.length < sizeLine ∧ (∀ v, valN kvs k = some v → Q v H3) ∧ (valN kvs k = none → Q z (upd H3 d (DO X.prog X.w d (putN kvs k b z))))
theorem pe_dsetdN (hu : X.A.units + 9 < cLine) (ho : PE X o td) (he : PE X e ty) (hf : PE X f tx) (m : M2 X o "setdefault" apos e f cpos) : PE X (.Call (.Attribute o "setdefault" apos) [e, f] [] cpos) (tSetdN X td ty tx) := by
  refine ⟨fun pins s σ H Q I h => ?_⟩
  refine wpAny_Call_method m.base m.few m.line PySem.F.plainAttrs_dict PySem.F.slot_dict_setdefault PySem.F.type_dict_setdefault (thn (ho.run pins s σ H _ I h) fun u s1 ⟨x, H1, I1, rx, d, kvs0, ex, hd0, ok0, q1⟩ => ?_)
  subst ex
  obtain rfl : u = Value.ref d := rx
  obtain ⟨_, _, xs0, _, dd0⟩ := do_at I1 (.inl hd0) ok0
  refine ⟨dd0.typeIs, fun b0 q => ?_, ?_⟩
  · cases q
    obtain ⟨o0, _, _, z1, z2, _⟩ := dd0
    exact ⟨o0, z1, z2.2.1⟩
  rw [m.trees]
  refine Calls.callWith_builtin rfl (Calls.evalArgs_plain (Calls.spliced_cons (thn (he.run pins s1 σ H1 _ I1 q1) fun iv s2 ⟨y, H2, I2, ry, q2⟩ =>
    Calls.spliced_cons (thn (hf.run pins s2 σ H2 _ I2 q2) fun fv s3 ⟨z, H3, I3, rz, b, kvs, k, ey, hd, ok, hk, dp, hl, q3, q4⟩ => Calls.spliced_nil ?_))))
  subst ey
  obtain rfl : iv = Value.ref b := ry
  obtain ⟨h1, _, xs, rel, dd⟩ := do_at I3 (.inl hd) ok
  have hz : xs.length ≤ sizeLine := by
    rw [← rel.len]
    omega
  have rv := KN.val (k := k) rel
  refine call_setdefault_heap (hsz := hz) (room_at hu) (key_at I3 hk dp) h1 dd (fun p hp => ?_) fun hn h' dd' same => ?_
  · rw [hp] at rv
    cases hval : valN kvs k with
    | none => rw [hval] at rv; exact rv.elim
    | some v =>
      rw [hval] at rv
      exact ⟨v, H3, I3.tok _, rv, q3 v hval⟩
  · have hval : valN kvs k = none := by
      rw [hn] at rv
      cases hval : valN kvs k with
      | none => rfl
      | some v => rw [hval] at rv; exact rv.elim
    have pl := putN_len kvs k b z
    have he : ∃ q, h'.get? d = some q := by
      obtain ⟨q, _, _, hq, _⟩ := dd'
      exact ⟨q, hq⟩
    exact ⟨z, _, d_write I3 (by rw [hd]; exact True.intro) same he (do_new h1 (by omega) (rel.put rz) dd'), rz, q4 hval⟩
end
end ND
namespace ND
open PySem PySem.Spec PyProof.Rows L2
set_option autoImplicit false
/-! ### walking over the keys -/
/-- the keys of the locked dict, in their order: each its own tuple -/
def ItN (P : Program) (w : World) (d : Addr) (ob : Obj) (kvs : List Ent) : L2.It :=
  ⟨fun n H => H d = some (.frz ob (DO P w d kvs)) ∧ n < kvs.length, fun n H x H' => H' = H ∧ ∃ p, kvs[n]? = some p ∧ x = .ref p.2.1, fun n H => H d = some (.frz ob (DO P w d kvs)) ∧ kvs.length ≤ n⟩
theorem KN.get : ∀ {kvs : List Ent} {xs : List Raw}, KN kvs xs → ∀ (n : Nat) (p : Ent), kvs[n]? = some p → ∃ q, xs[n]? = some q ∧ p.1 = q.1 ∧ p.2.1 = q.2.1 ∧ RelV p.2.2 q.2.2
  | _, _, .nil, n, p, h => by simp at h
  | _, _, .cons a r, 0, p, h => by
    have e := Option.some.inj h
    subst e
    exact ⟨_, rfl, a⟩
  | _, _, .cons a r, n + 1, p, h => KN.get r n p h
theorem locked_at {X : Cx} {pins : List (Addr × Obj)} {σ : L2.St} {H : Hp} {s : Shared} {d : Addr} {ob : Obj} {kvs : List Ent} (I : Inv X pins σ H s) (h : H d = some (.frz ob (DO X.prog X.w d kvs))) :
    (d == sysModules) = false ∧ s.heap.get? d = some ob ∧ ob.ExactDict ∧ ∃ (es : Array DictEntry) (ep : Nat), ob.data = .dict es ep ∧ es.size = kvs.length ∧
      ∀ (n : Nat) (p : Ent), kvs[n]? = some p → ∃ en : DictEntry, es[n]? = some en ∧ en.key = .ref p.2.1 := by
  obtain ⟨at1, ⟨hs, _, xs, rel, o1, es, ep, at2, ex, dt, he, _⟩, _⟩ := I.hok d _ h
  rw [at1] at at2
  cases at2
  refine ⟨hs, at1, ex, es, ep, dt, ?_, fun n p hp => ?_⟩
  · rw [size_of_entries he, rel.len]
  · obtain ⟨q, hq, _, e2, _⟩ := KN.get rel n p hp
    have z := entry_at he n
    rw [hq] at z
    exact ⟨_, z, by rw [e2]; rfl⟩
theorem same_data {ob : Obj} {es es' : Array DictEntry} {ep ep' : Nat} (h : ob.data = .dict es ep) (h' : ob.data = .dict es' ep') : es' = es ∧ ep' = ep := by
  rw [h'] at h
  cases h
  exact ⟨rfl, rfl⟩
theorem turn_keysN {P : Program} {w : World} {K : PySem.W.Frag} {tg : Expr} {d : Addr} {ob : Obj} {es : Array DictEntry} {ep : Nat} {kvs : List Ent} (itr : Addr) (hob : ob.data = .dict es ep) : Turn P w K tg (ItN P w d ob kvs) [itr] itr (fun n h => h.IsKeyIter itr d n kvs.length ep) where
  mem := by simp
  obj := fun n h st b hb => by
    obtain rfl : b = itr := by simpa using hb
    obtain ⟨oi, z, _, dd⟩ := st
    exact ⟨oi, z, fun v q => by rw [dd] at q; cases q⟩
  keep := fun n h h' st kk => st.at fun oi z => kk itr (by simp) oi z
  item := by
    intro X hP hw hK hc n pins s σ H E I hf st hg
    subst hP hw hK
    obtain ⟨hd, hn⟩ := hg
    obtain ⟨g0, g1, g2, g3, g4, g5⟩ := hf itr (by simp)
    obtain ⟨_, atd, _, es', ep', dt', sz, ent⟩ := locked_at I hd
    obtain ⟨rfl, rfl⟩ := same_data hob dt'
    have hp : kvs[n]? = some kvs[n] := List.getElem?_eq_getElem hn
    obtain ⟨en, hen, hkey⟩ := ent n _ hp
    refine next_key_item st atd dt' sz hen fun h' st' sb => ?_
    have J : Inv X pins σ H { s with heap := h' } := I.turned (t' := s.toks) (fun b u hb z => (sb.2 b hb).trans z) g0 g1 g3 g4 g5
    obtain ⟨oi, z, cc, dd⟩ := id st'
    refine ⟨en.key, rfl, go_of (s := { s with heap := h' }) z cc dd (by decide) ⟨.ref kvs[n].2.1, H, J, hkey, ⟨rfl, kvs[n], hp, rfl⟩, st', fun b hb => (hf b hb).1⟩⟩
  done := by
    intro X hP hw hK hc n pins s σ H E I hf st hg
    subst hP hw hK
    obtain ⟨hd, hn⟩ := hg
    obtain ⟨g0, g1, g2, g3, g4, g5⟩ := hf itr (by simp)
    obtain ⟨_, atd, _, es', ep', dt', sz, ent⟩ := locked_at I hd
    obtain ⟨rfl, rfl⟩ := same_data hob dt'
    exact next_key_end (I.ok.hd hc) st atd dt' sz hn fun h' eb => ⟨rfl, I.turned (t' := s.toks) (fun b u hb z => eb b u hb z) g0 g1 g3 g4 g5⟩
  self := fun A n s Q E st h => by
    refine wpAny_pyIter_slot st.typeIs PySem.F.slot_dict_keyiterator_iter (wpAny_call_entry PySem.F.slot_dict_keyiterator_iter st.typeIs PySem.F.entry_dict_keyiterator_iter ?_ (PySem.F.args_dict_keyiterator_iter_1 _))
    show wpAny _ _ (ret (.ref itr)) _ _ s
    exact wpAny_pure ⟨_, rfl, "dict_keyiterator", _, st.typeIs, PySem.F.slot_dict_keyiterator_next.lookup, h⟩
def iKeysN (X : Cx) (td : TE) : TI := fun σ H R => td σ H fun x H1 => ∃ (d : Addr) (ob : Obj) (kvs : List Ent), x = .ref d ∧ H1 d = some (.frz ob (DO X.prog X.w d kvs)) ∧ R (ItN X.prog X.w d ob kvs) H1
theorem pi_keysN {X : Cx} {tg e : Expr} {td : TE} (he : PE X e td) : PI X tg e (iKeysN X td) := by
  refine ⟨fun pins s σ H R I h => ?_⟩
  refine thn (he.run pins s σ H _ I h) fun u s1 ⟨x, H1, J, rx, d, ob, kvs, ex, hd, q⟩ => ?_
  subst ex
  obtain rfl : u = Value.ref d := rx
  obtain ⟨hs, atd, exd, es, ep, dt, sz, _⟩ := locked_at J hd
  refine iter_keys hs atd exd dt (pi_one (tk := s1.toks) J _ (turn_keysN _ dt) ⟨_, Heap.get?_push_size _ rfl, rfl, ?_⟩ q)
  rw [sz] <;> rfl
theorem walk_keysN {P : Program} {w : World} {d : Addr} {ob : Obj} {kvs : List Ent} : Walk (ItN P w d ob kvs) kvs.length (fun H => H d = some (.frz ob (DO P w d kvs))) (fun n H x H' => H' = H ∧ ∃ p, kvs[n]? = some p ∧ x = .ref p.2.1) :=
  ⟨fun _ _ hn q => ⟨q, hn⟩, fun _ q => ⟨q, Nat.le_refl _⟩, fun _ _ _ _ _ _ y => y⟩
end ND
/-! sorted(xs, key=f): f a def of the program whose promise gives a text and leaves all as it was -/
namespace SK
open PySem PySem.Spec PyProof.Rows L2 PySem.W
set_option autoImplicit false
def leG (g : V → Str) : V → V → Bool := dataLe false fun x => PyData.str (g x)
def Rx (u : Value) (x : V) : Prop := RelV x u
theorem each_vals : ∀ {xs : List V} {us : List Value}, Vals xs us → EachIs Rx us xs
  | _, _, .nil => .nil
  | _, _, .cons h r => .cons h (each_vals r)
theorem vals_each : ∀ {xs : List V} {us : List Value}, EachIs Rx us xs → Vals xs us
  | _, _, .nil => .nil
  | _, _, .cons h r => .cons h (vals_each r)
theorem nf {a q : Addr} {n : Nat} (h1 : a < n) (h2 : n ≤ q) : q ≠ a := fun e => absurd (Nat.lt_of_lt_of_le h1 h2) (by rw [e]; exact Nat.lt_irrefl _)
structure Fresh (X : Cx) (pins : List (Addr × Obj)) (H : Hp) (q : Addr) : Prop where
  non : H q = none
  loc : q ≠ X.env.locals
  fs : q ∉ X.fs
  new : X.s_0.heap.objs.size ≤ q
  cel : ∀ x c, X.env.cells.lookup x = some c → c ≠ q
  pin : ∀ p ∈ X.pn ++ pins, p.1 ≠ q
section
variable {X : Cx} {pins : List (Addr × Obj)} {σ : L2.St} {H : Hp} {s : Shared}
theorem fresh_of (I : Inv X pins σ H s) {q : Addr} (h : s.heap.objs.size ≤ q) : Fresh X pins H q where
  non := I.hok.fresh h
  loc := nf I.lt h
  fs := I.nofs h
  new := Nat.le_trans I.sz h
  cel := fun x c hc => by
    obtain ⟨v, o, ho, _⟩ := I.cell x c hc
    exact (nf (Heap.lt_size ho) h).symm
  pin := fun p hp => (nf (Heap.lt_size (I.pin p hp).1) h).symm
/-- the key store of the sort: pinned with what it holds; the list itself: tracked to the object -/
def here (a : Addr) (o : Obj) : HO := .ext fun h => h.get? a = some o
theorem here_ok {P : Program} {w : World} {h : Heap} {a : Addr} {o : Obj} (e : h.get? a = some o) : ObjOk P w H h a (here a o) := ⟨e, ⟨o, e⟩, fun _ _ z k => k o z⟩
theorem here_at {P : Program} {w : World} {h : Heap} {a : Addr} {o : Obj} (x : HOk P w H h) (e : H a = some (here a o)) : h.get? a = some o := (x a _ e).1
theorem seq_list {vs : Array Value} {n : Nat} : (seqObj "list" vs n) = ({ cls := .type "list", data := .seq vs n } : Obj) := rfl
theorem sort_core {a f : Addr} {fd : FuncData} {k tk0 : Nat} {pn : Str} {sp : Sp} {xs : List V} {vs : List Value} {g : V → Str} {hC : Heap} {Q : Value → Shared → Prop} {E' : Value → Shared → Prop} (I : Inv X pins σ H s) (keepC : ∀ b u, s.heap.get? b = some u → hC.get? b = some u) (ha : s.heap.objs.size ≤ a) (at0 : hC.get? a = some (seqObj "list" vs.toArray 0)) (rv : Vals xs vs) (hL : xs.length ≤ sizeLine)
    (F : FnOk X.prog X.w X.K X.mg X.base CX0 k f fd [pn] sp) (hr : Room (k + 2) X.A) (hb : Binds X.K fd [pn] []) (hu : X.A.units + 4 < cLine)
    (hsp : ∀ x ∈ xs, ∀ H', Same H H' → sp [x] H' (fun v H2 => v = .str (g x) ∧ Same H' H2) (fun _ _ _ => False))
    (fin : ∀ (H2 : Hp) (q : Addr) (s2 : Shared), Inv X pins σ H2 s2 → Same H H2 → H q = none → H2 q = some (.lst (xs.mergeSort (leG g))) → Q (.ref q) s2) :
    wpAny (model X.prog X.w) X.A.in1.in1 (Builtin.«list.sort» ⟨[.ref a], [(Str.ofString "key", .ref f)]⟩) (fun f s' => f = .done (.ret .none) ∧ Q (.ref a) s') E' { s with heap := hC, toks := tk0 } := by
  have vl : xs.length = vs.length := rv.length
  rw [ksk_t1]
  obtain ⟨e1, at1⟩ : ∃ e1, (hC.update a (Obj.mapSeq fun _ => (#[] : Array Value))).get? a = some (seqObj "list" #[] e1) := ⟨_, get?_update_seq at0 fun _ => #[]⟩
  generalize eh : hC.update a (Obj.mapSeq fun _ => (#[] : Array Value)) = hA at at1
  have keepA : ∀ b u, s.heap.get? b = some u → hA.get? b = some u := fun b u q => by
    rw [← eh, Heap.get?_update_ne _ _ _ _ (nf (Heap.lt_size q) ha).symm]
    exact keepC b u q
  unfold ksk_tree
  refine wpAny_bind (listItems_at (s := { s with heap := hC, toks := tk0 }) at0 rfl ?_)
  refine wpAny_bind (listUpdate_at (s := { s with heap := hC, toks := tk0 }) at0 rfl ?_ (by rw [List.size_toArray, ← vl]; exact hL) (Nat.zero_le _))
  show wpAny _ _ _ _ _ { s with toks := tk0, heap := hC.update a (Obj.mapSeq fun _ => (#[] : Array Value)) }
  rw [eh]
  refine wpAny_bind (seqEpoch_at (s := { s with heap := hA, toks := tk0 }) at1 rfl ?_)
  refine wpAny_bind (wpAny_newTuple ?_ (by show vs.length ≤ _; rw [← vl]; exact hL))
  refine wpAny_bind (wpAny_newList ?_ (Nat.zero_le _))
  refine wpAny_holding ?_
  -- the heap with the list emptied, the tuple laid
  generalize eT : hA.push (seqObj "tuple" vs.toArray 0) = hT
  have atT : hT.get? a = some (seqObj "list" #[] e1) := by
    rw [← eT]
    exact Heap.get?_push_of_some _ at1
  have I1 : Inv X pins σ (upd H a (here a (seqObj "list" #[] e1))) { s with heap := hT, toks := tk0 } := by
    refine I.laid (fun b u q => ?_) ha (here_ok atT)
    rw [← eT]
    exact Heap.get?_push_of_some _ (keepA b u q)
  have Ha : H a = none := I.hok.fresh ha
  have sm1 : Same H (upd H a (here a (seqObj "list" #[] e1))) := fun b o q => by
    rw [upd_ne (ne_of_none q Ha)]
    exact q
  generalize eH1 : upd H a (here a (seqObj "list" #[] e1)) = H1 at I1 sm1
  have H1a : H1 a = some (here a (seqObj "list" #[] e1)) := by
    rw [← eH1]
    exact upd_same
  have fr := fresh_of I1 (Nat.le_refl _)
  show wpAny _ _ (ksk_rest a (.ref f) false vs.toArray e1 (.ref hT.objs.size)) _ _ { s with heap := hT.push (seqObj "list" #[] 0), toks := tk0 }
  have hTs : hT.objs.size = ({ s with heap := hT, toks := tk0 } : Shared).heap.objs.size := rfl
  generalize eS : hT.objs.size = kS at fr ⊢
  have ka : kS ≠ a := nf (Heap.lt_size atT) (Nat.le_of_eq eS)
  have I2 : Inv X ((kS, seqObj "list" #[] 0) :: pins) σ H1 { s with heap := hT.push (seqObj "list" #[] 0), toks := tk0 } := by
    have J : Inv X pins σ H1 { s with heap := hT.push (seqObj "list" #[] 0), toks := tk0 } := I1.kept (t' := tk0) fun b u q => Heap.get?_push_of_some _ q
    refine J.pins_of fun p hp => ?_
    rcases List.mem_cons.mp hp with e | e
    · rw [e]
      refine ⟨?_, fr.non, fr.loc, fr.fs, fun v z => by cases z⟩
      rw [← eS]
      exact Heap.get?_push_size _ rfl
    · exact J.pin p (List.mem_append_right _ e)
  unfold ksk_rest
  refine wpAny_bind (wpAny_rule ?_)
  first
    | rw [List.forIn_toArray]
    | (rw [← Array.forIn_toList]; simp only [List.toList_toArray])
  refine wpAny_bind (ksk_fold (fun n s' => ∃ (Hn : Hp) (kA : Array Value) (e : Nat), Inv X ((kS, seqObj "list" kA e) :: pins) σ Hn s' ∧ Same H1 Hn ∧ Vals ((xs.take n).map fun x => V.str (g x)) kA.toList) vs 0 _ ⟨H1, #[], 0, I2, Same.refl _, .nil⟩ ?turn ?over)
  case turn =>
    rintro j u s' hj ⟨Hn, kA, e, J, sm, rk⟩
    simp only [Nat.zero_add] at rk ⊢
    have jl : j < vs.length := (List.getElem?_eq_some_iff.mp hj).1
    obtain ⟨x, hx, rx⟩ : ∃ x, xs[j]? = some x ∧ RelV x u := by
      have hx : xs[j]? = some (xs[j]'(by omega)) := List.getElem?_eq_getElem (by omega)
      obtain ⟨u', hu', ru'⟩ := rv.get hx
      rw [hj] at hu'
      cases hu'
      exact ⟨_, hx, ru'⟩
    have xm : x ∈ xs := List.mem_of_getElem? hx
    have hrun : wpAny (model X.prog X.w) X.A.in1.in1 (call (.ref f) [u]) (fun v s2 => EP X ((kS, seqObj "list" kA e) :: pins) σ (fun v H2 => v = .str (g x) ∧ Same Hn H2) v s2) (fun _ _ => False) s' := by
      have hr2 : Room k X.A.in1.in1 := (show Room (k + 1) X.A.in1 from Room.in1 hr).in1
      refine wpAny_call (codeAny_mono (F.run X.A.in1.in1 X.stack s' Hn ⟨[u], []⟩ [u] [x] (fun v H2 => v = .str (g x) ∧ Same Hn H2) (fun _ _ _ => False) hr2 J.env0.in1.in1 ?_ (.cons rx .nil) (hsp x xm Hn (sm1.trans sm))) fun r s2 hq => ?_)
      · have b1 := hb s' [u] J.kIn rfl
        rw [List.append_nil] at b1
        exact b1
      · cases r with
        | error er => exact (hq : False)
        | ok fl =>
          cases fl with
          | ret v => exact J.after hq
          | next => exact False.elim hq
          | brk => exact False.elim hq
          | cont => exact False.elim hq
    refine wpAny_bind (wpAny_attempt (wpAny_mono hrun (fun v s2 hv => ?_) fun _ _ z => z.elim))
    obtain ⟨y, H2, J2, ry, ey, sm2⟩ := hv
    subst ey
    have pk := J2.pin (kS, seqObj "list" kA e) (List.mem_append_right _ List.mem_cons_self)
    have kl : kA.size ≤ vs.length := by
      have q1 := rk.length
      rw [List.length_map, List.length_take] at q1
      have q2 : kA.toList.length = kA.size := Array.length_toList
      omega
    obtain ⟨c2, hc2⟩ : ∃ c2, (s2.heap.update kS (Obj.mapSeq (·.push v))).get? kS = some (seqObj "list" (kA.push v) c2) := ⟨_, get?_update_seq pk.1 (·.push v)⟩
    have sb := Heap.SameBut.update s2.heap kS (Obj.mapSeq (·.push v))
    try dsimp only
    refine wpAny_bind (listUpdate_at pk.1 rfl ?_ (by rw [← vl] at kl; omega) (by rw [Array.size_push, ← vl] at *; omega))
    refine wpAny_pure ⟨rfl, H2, kA.push v, c2, ?_, sm.trans sm2, ?_⟩
    · have J3 : Inv X pins σ H2 s2 := J2.pins_of fun p hp => J2.pin p (List.mem_append_right _ (List.mem_cons_of_mem _ hp))
      have J4 := J3.turned (t' := s2.toks) (h' := s2.heap.update kS (Obj.mapSeq (·.push v))) (it := kS) (fun b o hb q => (sb.2 b hb).trans q) pk.2.1 fr.loc (.inr fr.new) fr.cel fr.pin
      refine J4.pins_of fun p hp => ?_
      rcases List.mem_cons.mp hp with q | q
      · rw [q]
        exact ⟨hc2, pk.2.1, fr.loc, fr.fs, fun v z => by cases z⟩
      · exact J4.pin p (List.mem_append_right _ q)
    · rw [List.take_add_one, hx, List.map_append, Array.toList_push]
      exact rk.append (.cons ry .nil)
  case over =>
    rintro s' ⟨Hn, kA, e, J, sm, rk⟩
    simp only [Nat.zero_add] at rk
    rw [← vl, List.take_length] at rk
    have pk := J.pin (kS, seqObj "list" kA e) (List.mem_append_right _ List.mem_cons_self)
    have ata : s'.heap.get? a = some (seqObj "list" #[] e1) := here_at J.hok (sm _ _ H1a)
    have ksz : kA.size = vs.length := by
      have q1 := rk.length
      rw [List.length_map] at q1
      have q2 : kA.toList.length = kA.size := Array.length_toList
      omega
    have eachK : EachIs (fun v d => ∃ as, Reads s'.heap v d as) kA.toList (xs.map fun x => PyData.str (g x)) := by
      have gen : ∀ (ys : List V) (us : List Value), Vals (ys.map fun x => V.str (g x)) us → EachIs (fun v d => ∃ as, Reads s'.heap v d as) us (ys.map fun x => PyData.str (g x)) := by
        intro ys
        induction ys with
        | nil =>
          intro us r
          cases r
          exact .nil
        | cons y ys ih =>
          intro us r
          cases r with
          | cons ry rr =>
            obtain ⟨t, rfl⟩ := ry
            exact .cons ⟨[], .str _ _⟩ (ih _ rr)
      exact gen xs _ rk
    have alikeK : AllAlike (xs.map fun x => PyData.str (g x)) := by
      intro d hd d' hd'
      obtain ⟨b, _, rfl⟩ := List.mem_map.mp hd
      obtain ⟨c, _, rfl⟩ := List.mem_map.mp hd'
      simp [alike]
    have sortK : Sortable (xs.map fun x => PyData.str (g x)) := by
      refine .inr fun d hd => ?_
      obtain ⟨b, _, rfl⟩ := List.mem_map.mp hd
      exact ⟨by simp, fun ys => by simp⟩
    have unitK : ∀ d ∈ xs.map (fun x => PyData.str (g x)), X.A.in1.in1.units + d.depth < cLine := by
      intro d hd
      obtain ⟨b, _, rfl⟩ := List.mem_map.mp hd
      have u1 : X.A.in1.in1.units ≤ X.A.units + 2 := by first | exact Nat.le_refl _ | simp [Around.in1]
      simp only [PyData.depth]
      omega
    try dsimp only
    refine wpAny_bind (listItems_at pk.1 rfl ?_)
    have hid : (hideAll s'.heap [kS]).get? kS = none := hideAll_none _ (by simp)
    refine keyH_end (κ := dataKind s'.heap (xs.map fun x => PyData.str (g x))) (h₁ := hideAll s'.heap [kS]) (fun b o _ q => of_hideAll _ q) hid pk.1 ata ka (SortsAt.data (s := s') eachK alikeK sortK unitK) ksz (by rw [← vl]; exact hL) fun h3 tk c kp at3 => ⟨rfl, ?_⟩
    have eo : EachIs Rx (sortVals (dataKind s'.heap (xs.map fun x => PyData.str (g x))) false kA.toList vs) (xs.mergeSort (leG g)) :=
      keyedOut_each (rev := false) (fun x : V => PyData.str (g x)) ⟨s'.heap, kA.toList, alikeK, rfl, eachK⟩ (each_vals rv)
    generalize sortVals (dataKind s'.heap (xs.map fun x => PyData.str (g x))) false kA.toList vs = out at at3 eo
    -- the key store is let go, then the list takes the items
    have J3 : Inv X pins σ Hn s' := J.pins_of fun p hp => J.pin p (List.mem_append_right _ (List.mem_cons_of_mem _ hp))
    have back : (h3.update a fun _ => seqObj "list" #[] e1).get? a = some (seqObj "list" #[] e1) := by
      exact Heap.get?_update_self _ at3 rfl
    have J4 := J3.turned (t' := tk) (h' := h3.update a fun _ => seqObj "list" #[] e1) (it := kS) (fun b o hb q => ?_) pk.2.1 fr.loc (.inr fr.new) fr.cel fr.pin
    · have lenO : (xs.mergeSort (leG g)).length ≤ sizeLine := by
        rw [List.length_mergeSort]
        exact hL
      have J5 := J4.write (t' := tk) (x := a) (e := a) (h' := h3) (o := .lst (xs.mergeSort (leG g))) (by rw [sm _ _ H1a]; exact True.intro) (.inl rfl) (fun b u hb q => ?_) ⟨_, at3⟩ ⟨lenO, out, c, vals_each eo, at3⟩
      · refine fin _ a _ J5 (fun b o q => ?_) Ha upd_same
        rw [upd_ne (ne_of_none q Ha)]
        exact sm _ _ (sm1 _ _ q)
      · rw [Heap.get?_update_ne _ _ _ _ hb] at q
        exact q
    · by_cases ba : b = a
      · rw [ba] at q ⊢
        rw [ata] at q
        rw [← Option.some.inj q]
        exact back
      · rw [Heap.get?_update_ne _ _ _ _ ba]
        refine kp b o ba ?_
        exact hideAll_get [kS] q (by simpa using hb)
theorem sorted_fn {l f : Addr} {fd : FuncData} {k : Nat} {pn : Str} {sp : Sp} {xs : List V} {vs : List Value} {g : V → Str} {Q : Value → Shared → Prop} {E : Value → Shared → Prop} (I : Inv X pins σ H s) (hl : s.heap.IsList l vs.toArray) (rv : Vals xs vs) (hL : xs.length ≤ sizeLine)
    (F : FnOk X.prog X.w X.K X.mg X.base CX0 k f fd [pn] sp) (hr : Room (k + 2) X.A) (hb : Binds X.K fd [pn] []) (hu : X.A.units + 4 < cLine)
    (hsp : ∀ x ∈ xs, ∀ H', Same H H' → sp [x] H' (fun v H2 => v = .str (g x) ∧ Same H' H2) (fun _ _ _ => False))
    (fin : ∀ (H2 : Hp) (q : Addr) (s2 : Shared), Inv X pins σ H2 s2 → Same H H2 → H q = none → H2 q = some (.lst (xs.mergeSort (leG g))) → Q (.ref q) s2) :
    wpAny (model X.prog X.w) X.A (call (.builtin "sorted") [.ref l] [(Str.ofString "key", .ref f)]) Q E s := by
  refine sorted_of_sort hl (by rw [← rv.length]; exact hL) (ksk_s1 _ _) (fun _ => ksk_l1 _ _) fun E' => ?_
  exact sort_core I (fun b u q => copyHeap_old q) (Nat.le_succ _) (copyHeap_at s.heap vs) rv hL F hr hb hu hsp fin
end
end SK
namespace SK
open PySem PySem.Spec PyProof.Rows L2 PySem.W
set_option autoImplicit false
/-- a tuple is read in one way -/
def TInj (K : PySem.W.Frag) (H : Hp) : Prop := ∀ (a : Addr) (xs ys : List V), SqT K H a xs → SqT K H a ys → xs = ys
def tSortFn (K : PySem.W.Frag) (sp : Sp) (t : TA) : TE := fun σ H Q => t σ H fun vs H1 => TInj K H1 → ∃ (l : Addr) (xs : List V) (g : V → Str), vs = [.ref l] ∧ SqL K H1 l xs ∧
  (∀ x ∈ xs, ∀ H', Same H1 H' → sp [x] H' (fun v H2 => v = .str (g x) ∧ Same H' H2) (fun _ _ _ => False)) ∧ ∀ H2 p, Same H1 H2 → H1 p = none → H2 p = some (.lst (xs.mergeSort (leG g))) → Q (.ref p) H2
section
variable {X : Cx} {p p2 pos kpos : Pos} {e : Expr} {t : TA} {k : Nat} {f : Addr} {fd : FuncData} {pn fn : Str} {sp : Sp}
theorem pe_sortedFn (F : FnOk X.prog X.w X.K X.mg X.base CX0 k f fd [pn] sp) (hr : Room (k + 2) X.A) (hb : Binds X.K fd [pn] []) (hgs : Gl X "sorted") (hms : X.mg "sorted" = none) (hgf : Gl X fn) (hmf : X.mg fn = some (.ref f)) (ha : PA X [e] t)
    (hdb : (fn == ("__debug__" : Str)) = false := by decide) (he : backTo pos (starEach [e] X.env) = (false, eval e X.env) :: backTo pos (starEach [] X.env) := by rfl) (hpl : (backTo pos (starEach [e] X.env)).any (·.1) = false := by rfl) :
    PE X (.Call (.Name "sorted" p) [e] [⟨some "key", .Name fn p2, kpos⟩] pos) (tSortFn X.K sp t) := by
  refine ⟨fun pins s σ H Q I h => ?_⟩
  refine wpAny_Call_Name_kw (ld_blt I hgs hms (u := .builtin "sorted") (by decide +kernel) ?_)
  refine PyProof.Rows.callWith_kw (thn (ha.run pos pins s σ H _ I h) fun us s1 ⟨vs, H1, J, r1, q1⟩ => ?_) he hpl (by rfl) (by rfl)
  show wpAny _ _ (evalAll [do let v ← eval (.Name fn p2) X.env; standAt pos; pure v]) _ _ s1
  refine wpAny_evalAll_cons (wpAny_bind (ld_glob J hgf hmf (wpAny_bind (wpAny_standAt (wpAny_pure (wpAny_evalAll_nil ?_)))) hdb))
  obtain ⟨l, xs, g, rfl, hs, hsp, q⟩ := q1 fun a xs ys h1 h2 => J.tuple_inj h1 h2
  obtain ⟨its, rv, hl, hz⟩ := J.list hs
  rw [Vals.ref1 r1]
  show wpAny _ _ (call (.builtin "sorted") [.ref l] [(Str.ofString "key", .ref f)]) _ _ _
  exact sorted_fn J hl.isList rv hz F hr hb (by have := hr.units; omega) hsp fun H2 a s2 J2 sm hn ha => ⟨.ref a, H2, J2, rfl, q H2 a sm hn ha⟩
end
end SK
/-! sorted(d, reverse=b), sorted(d, key=f), list(d): d a dict with tuple keys -/
namespace ND
open PySem PySem.Spec PyProof.Rows L2 PySem.W PySem.Calls
set_option autoImplicit false
def keyRefs (kvs : List Ent) : List Value := kvs.map fun p => Value.ref p.2.1
def keyVs (kvs : List Ent) : List V := kvs.map fun p => V.ref p.2.1
theorem keyVals : ∀ kvs : List Ent, Vals (keyVs kvs) (keyRefs kvs)
  | [] => .nil
  | _ :: r => .cons rfl (keyVals r)
section
variable {X : Cx} {pins : List (Addr × Obj)} {σ : L2.St} {H : Hp} {s : Shared} {d : Addr} {kvs : List Ent}
theorem raw_at (I : Inv X pins σ H s) (hd : Rd H d (DO X.prog X.w d kvs)) : (d == sysModules) = false ∧ kvs.length ≤ sizeLine ∧ ∃ (es : Array DictEntry) (ep : Nat), s.heap.DictRaw d es ep ∧ es.size = kvs.length ∧ ∀ (n : Nat) (p : Ent), kvs[n]? = some p → ∃ en : DictEntry, es[n]? = some en ∧ en.key = .ref p.2.1 := by
  obtain ⟨⟨hs, hl, xs, rel, o, es, ep, h1, h2, h3, he, _⟩, _, _⟩ := hd.ok I.hok
  refine ⟨hs, hl, es, ep, ⟨o, h1, h2, h3⟩, ?_, fun n p hp => ?_⟩
  · rw [size_of_entries he, rel.len]
  · obtain ⟨q, hq, _, e2, _⟩ := KN.get rel n p hp
    have z := entry_at he n
    rw [hq] at z
    exact ⟨_, z, by rw [e2]; rfl⟩
theorem items_keys {es : Array DictEntry} {acc : Array Value} (sz : es.size = kvs.length) (ent : ∀ (n : Nat) (p : Ent), kvs[n]? = some p → ∃ en : DictEntry, es[n]? = some en ∧ en.key = .ref p.2.1) (ha : ItemsOf (fun i v => ∃ hi : i < es.size, v = es[i].key) acc es.size) : acc.toList = keyRefs kvs := by
  refine List.ext_getElem? fun n => ?_
  have asz : acc.toList.length = kvs.length := by
    have q : acc.toList.length = acc.size := Array.length_toList
    have := ha.1
    omega
  by_cases hn : n < kvs.length
  · have hp : kvs[n]? = some kvs[n] := List.getElem?_eq_getElem hn
    obtain ⟨en, hen, hk⟩ := ent n _ hp
    have hv : acc.toList[n]? = some (acc.toList[n]'(by omega)) := List.getElem?_eq_getElem (by omega)
    obtain ⟨hi, e⟩ := ha.2 n _ (by rw [← Array.getElem?_toList]; exact hv)
    have e2 : es[n] = en := by
      have := Array.getElem?_eq_getElem (xs := es) (i := n) hi
      rw [hen] at this
      exact (Option.some.inj this).symm
    rw [hv, e, e2, hk]
    unfold keyRefs
    rw [List.getElem?_map, hp]
    rfl
  · unfold keyRefs
    rw [List.getElem?_map, List.getElem?_eq_none (by omega), List.getElem?_eq_none (by omega)]
    rfl
theorem dict_sorted {kw : List (Str × Value)} {Q : Value → Shared → Prop} {E : Value → Shared → Prop} (I : Inv X pins σ H s) (hd : Rd H d (DO X.prog X.w d kvs)) (calm : X.calm = true) (ha1 : argsOk "sorted" ⟨[.ref d], kw⟩) (ha2 : ∀ x, argsOk "list.sort" ⟨[.ref x], kw⟩)
    (body : ∀ s1 : Shared, Inv X pins σ H s1 → ∀ E' : Value → Shared → Prop,
      wpAny (model X.prog X.w) X.A.in1.in1 (Builtin.«list.sort» ⟨[.ref s1.heap.objs.size], kw⟩) (fun f s' => f = .done (.ret .none) ∧ Q (.ref s1.heap.objs.size) s') E' { s1 with heap := s1.heap.push (seqObj "list" (keyRefs kvs).toArray 0) }) :
    wpAny (model X.prog X.w) X.A (call (.builtin "sorted") [.ref d] kw) Q E s := by
  obtain ⟨lo, hl, es, ep, raw, sz, ent⟩ := raw_at I hd
  refine call_function_entry_kw kind_sorted plain_sorted entry_sorted ha1 ?_
  unfold Builtin.«sorted»
  refine wpAny_bind (m := checkCount "sorted" 1 1 _) (wpAny_pure ?_)
  refine wpAny_bind (kdu_collect (A := X.A.in1) (KdlSrc.rawDict (prog := X.prog) (w := X.w) (es := es) (ep := ep) lo) (I.ok.hd calm) raw (by rw [sz]; exact hl) fun h' tk acc kp items => ?_)
  rw [items_keys sz ent items]
  have kl : (keyRefs kvs).length ≤ sizeLine := by
    unfold keyRefs
    rw [List.length_map]
    exact hl
  refine wpAny_bind (wpAny_newList ?_ kl)
  have J : Inv X pins σ H { s with heap := h', toks := tk } := I.kept kp
  have at0 : (h'.push (seqObj "list" (keyRefs kvs).toArray 0)).get? h'.objs.size = some (seqObj "list" (keyRefs kvs).toArray 0) := Heap.get?_push_size _ rfl
  refine wpAny_bind (wpAny_holding (wpAny_call_entry_kw slot_list_sort ⟨_, at0, rfl⟩ entry_list_sort ?inner (ha2 _)))
  case inner =>
    refine wpAny_mono (body { s with heap := h', toks := tk } J _) (fun f s' hf => ?_) fun _ _ e => e
    obtain ⟨rfl, hq⟩ := hf
    exact ⟨_, rfl, wpAny_pure ⟨_, rfl, hq⟩⟩
/-! ### sorted(d, reverse=b) -/
mutual
theorem NK.dp {K : PySem.W.Frag} {H : Hp} : ∀ (k : NestedKey) (v : V), NK K H k v → Dp K H v k.data
  | .none, _, h => by cases h; exact .non
  | .num i, _, h => by cases h; exact .int i
  | .text x, _, h => by cases h; exact .str x
  | .tup ks, _, h => by
    cases h with
    | tup q r => exact .tup q (NKs.dp ks _ r)
theorem NKs.dp {K : PySem.W.Frag} {H : Hp} : ∀ (ks : List NestedKey) (vs : List V), NKs K H ks vs → DpAll K H vs (NestedKey.datas ks)
  | [], _, h => by cases h; exact .nil
  | k :: ks, _, h => by
    cases h with
    | cons a r => exact .cons (NK.dp k _ a) (NKs.dp ks _ r)
end
def Rr (u : Value) (p : Ent) : Prop := u = .ref p.2.1
theorem each_refs : ∀ kvs : List Ent, EachIs Rr (keyRefs kvs) kvs
  | [] => .nil
  | _ :: r => .cons rfl (each_refs r)
theorem vals_refs : ∀ {us : List Value} {ps : List Ent}, EachIs Rr us ps → Vals (keyVs ps) us
  | _, _, .nil => .nil
  | _, _, .cons h r => .cons h (vals_refs r)
def rSortD (X : Cx) (b : Bool) : List V → List V → Hp → VK → Prop := fun vs zs H Q => ∃ (d : Addr) (kvs : List Ent), vs = [V.ref d] ∧ zs = [.bl b] ∧ Rd H d (DO X.prog X.w d kvs) ∧ KOks X.K H kvs ∧ AllAlike (kvs.map fun p => p.1.data) ∧ Sortable (kvs.map fun p => p.1.data) ∧ (∀ p ∈ kvs, p.1.data.depth ≤ 9) ∧
  ∀ p, H p = none → Q (.ref p) (upd H p (.lst (keyVs (kvs.mergeSort (dataLe b fun p => p.1.data)))))
theorem cr_sortedD {b : Bool} (calm : X.calm = true) (hu : X.A.units + 64 < cLine) : CallRK X (.builtin "sorted") [Str.ofString "reverse"] (rSortD X b) := by
  intro pins s σ H vs zs us ws Q I r rz h
  obtain ⟨d, kvs, rfl, rfl, hd, ok, al, so, dp, q⟩ := h
  obtain rfl := Vals.ref1 r
  obtain ⟨w1, rfl, e1⟩ := vals1 rz
  obtain rfl : w1 = Value.bool b := e1
  have hl : kvs.length ≤ sizeLine := (raw_at I hd).2.1
  refine dict_sorted I hd calm (args_sorted_rev _ _) (fun _ => args_list_sort_rev _ _) fun s1 J E' => ?_
  have at0 : (s1.heap.push (seqObj "list" (keyRefs kvs).toArray 0)).get? s1.heap.objs.size = some (seqObj "list" (keyRefs kvs).toArray 0) := Heap.get?_push_size _ rfl
  have er : EachIs (fun v p => ∃ as, Reads (sortingHeap (s1.heap.push (seqObj "list" (keyRefs kvs).toArray 0)) s1.heap.objs.size (keyRefs kvs)) v p.1.data as) (keyRefs kvs) kvs := by
    have gen : ∀ l : List Ent, KOks X.K H l → EachIs (fun v p => ∃ as, Reads (sortingHeap (s1.heap.push (seqObj "list" (keyRefs kvs).toArray 0)) s1.heap.objs.size (keyRefs kvs)) v p.1.data as) (keyRefs l) l := by
      intro l
      induction l with
      | nil => intro _; exact .nil
      | cons p l ih =>
        intro o
        refine .cons ?_ (ih fun x hx => o x (List.mem_cons_of_mem _ hx))
        obtain ⟨as, rd⟩ := Dp.reads J _ _ _ (NK.dp _ _ (o p List.mem_cons_self).1) rfl
        exact ⟨as, PyProof.Rows.Reads.keeps (fun b o e => sortingHeap_old (Nat.ne_of_lt (Heap.lt_size e)) (Heap.get?_push_of_some _ e)) rd⟩
    exact gen kvs ok
  have un : ∀ x ∈ kvs.map (fun p => p.1.data), X.A.in1.in1.units + x.depth < cLine := by
    intro x hx
    obtain ⟨p, hp, rfl⟩ := List.mem_map.mp hx
    have := dp p hp
    have u1 : X.A.in1.in1.units ≤ X.A.units + 2 := by first | exact Nat.le_refl _ | simp [Around.in1]
    omega
  have kl : (keyRefs kvs).length ≤ sizeLine := by
    unfold keyRefs
    rw [List.length_map]
    exact hl
  refine list_sort_rev_vals (s := { s1 with heap := s1.heap.push (seqObj "list" (keyRefs kvs).toArray 0) }) at0 (SortsAt.data (s := { s1 with heap := sortingHeap (s1.heap.push (seqObj "list" (keyRefs kvs).toArray 0)) s1.heap.objs.size (keyRefs kvs) }) (each_map (R := fun v x => ∃ as, Reads (sortingHeap (s1.heap.push (seqObj "list" (keyRefs kvs).toArray 0)) s1.heap.objs.size (keyRefs kvs)) v x as) (fun p : Ent => p.1.data) er) al so un) kl ⟨rfl, ?_⟩
  have eo := sortVals_data b (each_refs kvs) er al
  generalize sortVals (dataKind (sortingHeap (s1.heap.push (seqObj "list" (keyRefs kvs).toArray 0)) s1.heap.objs.size (keyRefs kvs)) (kvs.map fun p => p.1.data)) b (keyRefs kvs) (keyRefs kvs) = out at eo ⊢
  obtain ⟨c, hc⟩ := PyProof.Rows.sortedHeap_at (vs := keyRefs kvs) (out := out.toArray) at0
  refine ⟨.ref s1.heap.objs.size, upd H s1.heap.objs.size (.lst (keyVs (kvs.mergeSort (dataLe b fun p => p.1.data)))), J.laid (t' := s1.toks) (fun b u e => ?_) (Nat.le_refl _) ⟨?_, out, c, vals_refs eo, hc⟩, rfl, q _ (J.hok.fresh (Nat.le_refl _))⟩
  · have lt := Heap.lt_size e
    rw [PyProof.Rows.sortedHeap_old (Nat.ne_of_lt lt) (Nat.lt_of_lt_of_le lt (by rw [size_push']; exact Nat.le_succ _))]
    exact Heap.get?_push_of_some _ e
  · unfold keyVs
    rw [List.length_map, List.length_mergeSort]
    exact hl
/-! ### sorted(d, key=f) -/
def tSortDFn (X : Cx) (sp : Sp) (t : TA) : TE := fun σ H Q => t σ H fun vs H1 => SK.TInj X.K H1 → ∃ (d : Addr) (kvs : List Ent) (g : V → Str), vs = [.ref d] ∧ Rd H1 d (DO X.prog X.w d kvs) ∧
  (∀ x ∈ keyVs kvs, ∀ H', Same H1 H' → sp [x] H' (fun v H2 => v = .str (g x) ∧ Same H' H2) (fun _ _ _ => False)) ∧ ∀ H2 p, Same H1 H2 → H1 p = none → H2 p = some (.lst ((keyVs kvs).mergeSort (SK.leG g))) → Q (.ref p) H2
theorem pe_sortedDFn {p p2 pos kpos : Pos} {e : Expr} {t : TA} {k : Nat} {f : Addr} {fd : FuncData} {pn fn : Str} {sp : Sp} (calm : X.calm = true) (F : FnOk X.prog X.w X.K X.mg X.base CX0 k f fd [pn] sp) (hr : Room (k + 2) X.A) (hb : Binds X.K fd [pn] []) (hgs : Gl X "sorted") (hms : X.mg "sorted" = none) (hgf : Gl X fn) (hmf : X.mg fn = some (.ref f)) (ha : PA X [e] t)
    (hdb : (fn == ("__debug__" : Str)) = false := by decide) (he : backTo pos (starEach [e] X.env) = (false, eval e X.env) :: backTo pos (starEach [] X.env) := by rfl) (hpl : (backTo pos (starEach [e] X.env)).any (·.1) = false := by rfl) :
    PE X (.Call (.Name "sorted" p) [e] [⟨some "key", .Name fn p2, kpos⟩] pos) (tSortDFn X sp t) := by
  refine ⟨fun pins s σ H Q I h => ?_⟩
  refine wpAny_Call_Name_kw (ld_blt I hgs hms (u := .builtin "sorted") (by decide +kernel) ?_)
  refine PyProof.Rows.callWith_kw (thn (ha.run pos pins s σ H _ I h) fun us s1 ⟨vs, H1, J, r1, q1⟩ => ?_) he hpl (by rfl) (by rfl)
  show wpAny _ _ (evalAll [do let v ← eval (.Name fn p2) X.env; standAt pos; pure v]) _ _ s1
  refine wpAny_evalAll_cons (wpAny_bind (ld_glob J hgf hmf (wpAny_bind (wpAny_standAt (wpAny_pure (wpAny_evalAll_nil ?_)))) hdb))
  obtain ⟨d, kvs, g, rfl, hd, hsp, q⟩ := q1 fun a xs ys h1 h2 => J.tuple_inj h1 h2
  have hl : (keyVs kvs).length ≤ sizeLine := by
    unfold keyVs
    rw [List.length_map]
    exact (raw_at J hd).2.1
  rw [Vals.ref1 r1]
  show wpAny _ _ (call (.builtin "sorted") [.ref d] [(Str.ofString "key", .ref f)]) _ _ _
  refine dict_sorted J hd calm (ksk_s1 _ _) (fun _ => ksk_l1 _ _) fun s2 J2 E' => ?_
  exact SK.sort_core (Q := EP X pins σ Q) J2 (fun b u e => Heap.get?_push_of_some _ e) (Nat.le_refl _) (Heap.get?_push_size _ rfl) (keyVals kvs) hl F hr hb (by have := hr.units; omega) hsp fun H2 a s3 J3 sm hn ha => ⟨.ref a, H2, J3, rfl, q H2 a sm hn ha⟩
/-! ### list(d) -/
def rListD (X : Cx) : List V → Hp → VK → Prop := fun vs H Q => ∃ (d : Addr) (kvs : List Ent), vs = [V.ref d] ∧ Rd H d (DO X.prog X.w d kvs) ∧ ∀ p, H p = none → Q (.ref p) (upd H p (.lst (keyVs kvs)))
theorem cr_listD (calm : X.calm = true) : CallR X (.type "list") (rListD X) := by
  intro pins s σ H vs us Q I r h
  obtain ⟨d, kvs, rfl, hd, q⟩ := h
  obtain rfl := Vals.ref1 r
  obtain ⟨lo, hl, es, ep, raw, sz, ent⟩ := raw_at I hd
  refine kdl_call (KdlSrc.rawDict (prog := X.prog) (w := X.w) (es := es) (ep := ep) lo) (I.ok.hd calm) raw (by rw [sz]; exact hl) fun h' tk acc c kp at0 items => ?_
  have e := items_keys sz ent items
  have at1 : h'.get? s.heap.objs.size = some { cls := .type "list", dict := none, data := .seq (keyRefs kvs).toArray c, slots := #[] } := by
    rw [at0, ← e]
  refine ⟨.ref s.heap.objs.size, upd H s.heap.objs.size (.lst (keyVs kvs)), I.laid (t' := tk) kp (Nat.le_refl _) ⟨?_, keyRefs kvs, c, keyVals kvs, at1⟩, rfl, q _ (I.hok.fresh (Nat.le_refl _))⟩
  unfold keyVs
  rw [List.length_map]
  exact hl
end
end ND
/-! dicts with nested tuple keys: {k: v}, d.get(k, x), d.values(), list(d.values()) -/
namespace ND
open PySem PySem.Spec PyProof.Rows L2 PySem.W PySem.Calls
set_option autoImplicit false
section
variable {X : Cx} {o e f : Expr} {td ty tx : TE} {pos apos cpos : Pos}
def tGet2N (X : Cx) (td ty tx : TE) : TE := fun σ H Q => td σ H fun x H1 => ∃ d kvs0, x = .ref d ∧ H1 d = some (DO X.prog X.w d kvs0) ∧ KOks X.K H1 kvs0 ∧ ty σ H1 fun y H2 => tx σ H2 fun z H3 => ∃ (b : Addr) (kvs : List Ent) (k : NestedKey), y = .ref b ∧ At X H3 d b kvs k ∧ Q ((valN kvs k).getD z) H3
theorem pe_dget2N (hu : X.A.units + 9 < cLine) (ho : PE X o td) (he : PE X e ty) (hf : PE X f tx) (m : M2 X o "get" apos e f cpos) : PE X (.Call (.Attribute o "get" apos) [e, f] [] cpos) (tGet2N X td ty tx) := by
  refine ⟨fun pins s σ H Q I h => ?_⟩
  refine wpAny_Call_method m.base m.few m.line PySem.F.plainAttrs_dict PySem.F.slot_dict_get PySem.F.type_dict_get (thn (ho.run pins s σ H _ I h) fun u s1 ⟨x, H1, I1, rx, d, kvs0, ex, hd0, ok0, q1⟩ => ?_)
  subst ex
  obtain rfl : u = Value.ref d := rx
  obtain ⟨_, _, xs0, _, dd0⟩ := do_at I1 (.inl hd0) ok0
  refine ⟨dd0.typeIs, fun b0 q => ?_, ?_⟩
  · cases q
    obtain ⟨o0, _, _, z1, z2, _⟩ := dd0
    exact ⟨o0, z1, z2.2.1⟩
  rw [m.trees]
  refine Calls.callWith_builtin rfl (Calls.evalArgs_plain (Calls.spliced_cons (thn (he.run pins s1 σ H1 _ I1 q1) fun iv s2 ⟨y, H2, I2, ry, q2⟩ =>
    Calls.spliced_cons (thn (hf.run pins s2 σ H2 _ I2 q2) fun fv s3 ⟨z, H3, I3, rz, b, kvs, k, ey, at_, q3⟩ => Calls.spliced_nil ?_))))
  subst ey
  obtain rfl : iv = Value.ref b := ry
  obtain ⟨h1, _, xs, rel, dd⟩ := do_at I3 at_.dic at_.oks
  have rv := KN.val (k := k) rel
  refine call_meetsIn PySem.F.slot_dict_get dd.typeIs PySem.F.entry_dict_get (PySem.F.args_dict_get_3 _ _ _) (meetsH_dict_get_default (nestedKind X.prog X.w) d b h1 fv) ⟨room_at hu, k, xs, key_at I3 at_.key at_.dep, dd, ?_⟩
  exact ⟨_, H3, I3.tok _, rv.getD rz, q3⟩
end
/-! ### the values -/
def VW (v d : Addr) : HO := .ext fun h => h.IsValuesView v d
theorem vw_new {P : Program} {w : World} {H : Hp} {h : Heap} {v d : Addr} (R : h.IsValuesView v d) : ObjOk P w H h v (VW v d) := by
  obtain ⟨o, ho, hc, hd⟩ := id R
  exact ⟨R, ⟨_, ho⟩, fun h1 h2 p k => by
    obtain ⟨o, ho, r⟩ := p
    exact ⟨o, k _ ho, r⟩⟩
structure M0 (X : Cx) (o : Expr) (m : Str) (apos : Pos) (cpos : Pos) : Prop where
  base : attributeBase o m X.env (eval o X.env) = eval o X.env
  few : ((backTo cpos (starEach [] X.env)).all (fun x => !x.1) && (backToKw cpos (keywordEach [] X.env)).all (fun x => x.1.isSome)
    && decide (([] : List Expr).length + ([] : List Keyword).length + (if ([] : List Keyword).isEmpty then 0 else 1) < 30)) = true
  line : (apos.endLine == cpos.line) = true
  trees : backTo cpos (starEach [] X.env) = []
section
variable {X : Cx} {o : Expr} {td : TE} {pos apos cpos : Pos}
def tValsN (X : Cx) (td : TE) : TE := fun σ H Q => td σ H fun x H1 => ∃ d kvs, x = .ref d ∧ H1 d = some (DO X.prog X.w d kvs) ∧ KOks X.K H1 kvs ∧ ∀ p, H1 p = none → Q (.ref p) (upd H1 p (VW p d))
theorem pe_valuesN (ho : PE X o td) (m : M0 X o "values" apos cpos) : PE X (.Call (.Attribute o "values" apos) [] [] cpos) (tValsN X td) := by
  refine ⟨fun pins s σ H Q I h => ?_⟩
  refine wpAny_Call_method m.base m.few m.line PySem.F.plainAttrs_dict PySem.F.slot_dict_values PySem.F.type_dict_values (thn (ho.run pins s σ H _ I h) fun u s1 ⟨x, H1, I1, rx, d, kvs0, ex, hd0, ok0, q1⟩ => ?_)
  subst ex
  obtain rfl : u = Value.ref d := rx
  obtain ⟨hs, _, xs0, _, dd0⟩ := do_at I1 (.inl hd0) ok0
  refine ⟨dd0.typeIs, fun b0 q => ?_, ?_⟩
  · cases q
    obtain ⟨o0, _, _, z1, z2, _⟩ := dd0
    exact ⟨o0, z1, z2.2.1⟩
  rw [m.trees]
  refine Calls.callWith_builtin rfl (PyProof.Rows.evalArgs_empty ?_)
  obtain ⟨_, _, es, ep, raw, _, _⟩ := raw_at I1 (.inl hd0)
  refine call_meetsIn PySem.F.slot_dict_values dd0.typeIs PySem.F.entry_dict_values (PySem.F.args_dict_values_1 _) (meets_dict_values_raw d hs) ⟨⟨es, ep, raw⟩, ?_⟩
  exact ⟨.ref s1.heap.objs.size, _, I1.laid (t' := s1.toks) (o := VW s1.heap.objs.size d) (fun b ob q => Heap.get?_push_of_some _ q) (Nat.le_refl _) (vw_new ⟨_, Heap.get?_push_size _ rfl, rfl, rfl⟩), rfl, q1 _ (I1.hok.fresh (Nat.le_refl _))⟩
end
section
variable {X : Cx} {pins : List (Addr × Obj)} {σ : L2.St} {H : Hp} {s : Shared} {d : Addr} {kvs : List Ent}
theorem raw_vals (I : Inv X pins σ H s) (hd : Rd H d (DO X.prog X.w d kvs)) : (d == sysModules) = false ∧ kvs.length ≤ sizeLine ∧ ∃ (es : Array DictEntry) (ep : Nat), s.heap.DictRaw d es ep ∧ es.size = kvs.length ∧ ∀ (n : Nat) (p : Ent), kvs[n]? = some p → ∃ en : DictEntry, es[n]? = some en ∧ RelV p.2.2 en.val := by
  obtain ⟨⟨hs, hl, xs, rel, o, es, ep, h1, h2, h3, he, _⟩, _, _⟩ := hd.ok I.hok
  refine ⟨hs, hl, es, ep, ⟨o, h1, h2, h3⟩, ?_, fun n p hp => ?_⟩
  · rw [size_of_entries he, rel.len]
  · obtain ⟨q, hq, _, _, e3⟩ := KN.get rel n p hp
    have z := entry_at he n
    rw [hq] at z
    exact ⟨_, z, e3⟩
theorem vals_get : ∀ (ps : List V) (us : List Value), ps.length = us.length → (∀ (n : Nat) (p : V) (u : Value), ps[n]? = some p → us[n]? = some u → RelV p u) → Vals ps us
  | [], [], _, _ => .nil
  | p :: ps, u :: us, h, hr => .cons (hr 0 p u rfl rfl) (vals_get ps us (Nat.succ.inj h) fun n a b ha hb => hr (n + 1) a b ha hb)
  | [], _ :: _, h, _ => by cases h
  | _ :: _, [], h, _ => by cases h
def rListV (X : Cx) : List V → Hp → VK → Prop := fun vs H Q => ∃ (v d : Addr) (kvs : List Ent), vs = [V.ref v] ∧ H v = some (VW v d) ∧ H d = some (DO X.prog X.w d kvs) ∧ ∀ p, H p = none → Q (.ref p) (upd H p (.lst (kvs.map (·.2.2))))
theorem cr_listV (calm : X.calm = true) : CallR X (.type "list") (rListV X) := by
  intro pins s σ H vs us Q I r h
  obtain ⟨v, d, kvs, rfl, hv, hd, q⟩ := h
  obtain rfl := Vals.ref1 r
  obtain ⟨lo, hl, es, ep, raw, sz, ent⟩ := raw_vals I (.inl hd)
  have hv' : s.heap.IsValuesView v d := (I.hok v _ hv).1
  refine kdl_call (KdlSrc.rawValues (prog := X.prog) (w := X.w) (es := es) (ep := ep)) (I.ok.hd calm) ⟨hv', raw⟩ (by rw [sz]; exact hl) fun h' tk acc c kp at0 items => ?_
  have asz : acc.toList.length = kvs.length := by
    have q : acc.toList.length = acc.size := Array.length_toList
    have := items.1
    omega
  have vals : Vals (kvs.map (·.2.2)) acc.toList := by
    refine vals_get _ _ (by rw [List.length_map, asz]) fun n p u hp hu => ?_
    rw [List.getElem?_map] at hp
    cases hk : kvs[n]? with
    | none => rw [hk] at hp; cases hp
    | some en0 =>
      rw [hk] at hp
      cases hp
      obtain ⟨en, hen, hrel⟩ := ent n en0 hk
      obtain ⟨hi, e⟩ := items.2 n u (by rw [← Array.getElem?_toList]; exact hu)
      have e2 : es[n] = en := by
        have := Array.getElem?_eq_getElem (xs := es) (i := n) hi
        rw [hen] at this
        exact (Option.some.inj this).symm
      rw [e, e2]
      exact hrel
  refine ⟨.ref s.heap.objs.size, upd H s.heap.objs.size (.lst (kvs.map (·.2.2))), I.laid (t' := tk) kp (Nat.le_refl _) ⟨by rw [List.length_map]; exact hl, acc.toList, c, vals, at0⟩, rfl, q _ (I.hok.fresh (Nat.le_refl _))⟩
end
/-! ### {k: v} -/
section
variable {X : Cx} {ek ev : Expr} {tk tv : TE} {pos : Pos}
def tDisp1N (X : Cx) (tk tv : TE) : TE := fun σ H Q => ∀ p, H p = none → tk σ (upd H p (DO X.prog X.w p [])) fun x H1 => tv σ H1 fun y H2 => H2 p = some (DO X.prog X.w p []) ∧ ∃ (b : Addr) (k : NestedKey), x = .ref b ∧ NK X.K H2 k (.ref b) ∧ k.depth ≤ 8 ∧ Q (.ref p) (upd H2 p (DO X.prog X.w p [(k, b, y)]))
theorem pe_disp1N (hu : X.A.units + 9 < cLine) (hk : PE X ek tk) (hv : PE X ev tv) : PE X (.Dict [some ek] [ev] pos) (tDisp1N X tk tv) := by
  refine ⟨fun pins s σ H Q I q => ?_⟩
  have hn := I.hok.fresh (Nat.le_refl s.heap.objs.size)
  have h0 : (s.heap.objs.size == sysModules) = false := beq_eq_false_iff_ne.mpr (Ne.symm (Nat.ne_of_lt I.big))
  have I1 : Inv X pins σ (upd H s.heap.objs.size (DO X.prog X.w s.heap.objs.size [])) { s with heap := s.heap.push { cls := .type "dict", data := .dict #[] } } :=
    I.laid (a := s.heap.objs.size) (o := DO X.prog X.w s.heap.objs.size []) (h' := s.heap.push { cls := .type "dict", data := .dict #[] }) (t' := s.toks) (fun _ _ q => Heap.get?_push_of_some _ q) (Nat.le_refl _) (do_new (xs := []) h0 (Nat.zero_le _) .nil (Heap.DictOfH.new s.heap))
  rw [arm_eval_Dict, zip_pairTrees [some ek] [ev] X.env pos rfl rfl, dictDisplay_pairs (pairTrees [some ek] [ev] X.env pos) (by intro h; cases h) (by show 1 < 17; decide)]
  have rm : (nestedKind X.prog X.w).room X.A := by
    have := room_at (X := X) (A := X.A) hu
    first | exact this | (unfold nestedKind at *; simp only [Around.in1] at *; omega)
  refine wpAny_bind (wpAny_standAt (wpAny_bind (wpAny_subDictH (knd := nestedKind X.prog X.w) (Q := fun d s' => wpAny (model X.prog X.w) X.A (pure (Value.ref d)) (EP X pins σ Q) X.xe s') rm (by show 1 ≤ 15; decide) ?_)))
  refine pairTrees_cons_walk (thn (hk.run pins _ σ _ _ I1 (q _ hn)) fun u s1 ⟨x, H1, I1', rx, q1⟩ => thn (hv.run pins s1 σ H1 _ I1' q1) fun w2 s2 ⟨y, H2, I2, ry, e, b, k, ex, nk, dp, q2⟩ => pairTrees_nil_walk ?_)
  subst ex
  obtain rfl : u = Value.ref b := rx
  obtain ⟨h1, _, xs, rel, dd⟩ := do_at I2 (.inl e) (fun p hp => (nomatch hp))
  cases rel
  refine ⟨[(k, b, w2)], ⟨rfl, rfl, key_at I2 nk dp, trivial⟩, dd, fun h' tk dd' same => wpAny_pure ?_⟩
  have he : ∃ q, h'.get? s.heap.objs.size = some q := by
    obtain ⟨q, _, _, hq, _⟩ := dd'
    exact ⟨q, hq⟩
  exact ⟨.ref s.heap.objs.size, _, d_write I2 (by rw [e]; exact True.intro) same he (do_new (kvs := [(k, b, y)]) (xs := [(k, b, w2)]) h1 (by rw [sizeLine_eq]; show 1 ≤ _; decide) (.cons ⟨rfl, rfl, ry⟩ .nil) dd'), rfl, q2⟩
end
end ND
/-! dict(a list of pairs) whose keys are different nested tuples -/
namespace DPN
open PySem PySem.Spec PyProof.Rows L2
open ND (DO KOks NK NKs Ent Raw KN)
set_option autoImplicit false
theorem stored_all : ∀ (ps acc : List Raw), (acc.map (·.1) ++ ps.map (·.1)).Nodup → storedAllH acc ps = acc ++ ps
  | [], acc, _ => (List.append_nil acc).symm
  | p :: ps, acc, nd => by
    have no : atKey acc p.1 = none := atKey_none_of_get fun j q e => by
      have h1 : p.1 ∈ acc.map (·.1) := List.mem_map.mpr ⟨_, List.mem_of_getElem? e, rfl⟩
      exact (List.nodup_append.mp nd).2.2 _ h1 _ List.mem_cons_self rfl
    have st : storedAllH acc (p :: ps) = storedAllH (storedH acc p.1 p.2.1 p.2.2) ps := rfl
    rw [st, storedH_new no, stored_all ps]
    · rw [List.append_assoc]
      rfl
    · rw [List.map_append, List.append_assoc]
      exact nd
section
variable {X : Cx}
theorem raws_of {pins : List (Addr × Obj)} {σ : L2.St} {H : Hp} {s : Shared} (I : Inv X pins σ H s) : ∀ {ps : List Addr} {kvs : List Ent}, Paired (fun p e => SqT X.K H p [.ref e.2.1, e.2.2]) ps kvs →
    ∃ rs : List Raw, KN kvs rs ∧ rs.length = ps.length ∧ ∀ (j : Nat) (q : Raw), rs[j]? = some q → ∃ b, ps[j]? = some b ∧ s.heap.IsTuple b #[.ref q.2.1, q.2.2]
  | _, _, .nil => ⟨[], .nil, rfl, fun j q e => by simp at e⟩
  | _, _, .cons (a := p) (b := e) h t => by
    obtain ⟨rs, r, hl, hp⟩ := raws_of I t
    obtain ⟨its, rv, ht, _⟩ := I.tuple h
    obtain ⟨u, y, ei, ru, ry⟩ := vals2 rv
    subst ei
    obtain rfl : u = Value.ref e.2.1 := ru
    refine ⟨(e.1, e.2.1, y) :: rs, .cons ⟨rfl, rfl, ry⟩ r, by rw [List.length_cons, List.length_cons, hl], fun j q e' => ?_⟩
    cases j with
    | zero =>
      have e' : (e.1, e.2.1, y) = q := Option.some.inj e'
      subst e'
      obtain ⟨o, h1, h2, h3⟩ := ht
      exact ⟨p, rfl, o, h1, h2, h3⟩
    | succ j =>
      obtain ⟨b, e1, e2⟩ := hp j q (by simpa using e')
      exact ⟨b, by simpa using e1, e2⟩
theorem kn_keys : ∀ {kvs : List Ent} {rs : List Raw}, KN kvs rs → kvs.map (·.1) = rs.map (·.1)
  | _, _, .nil => rfl
  | _, _, .cons h t => by
    rw [List.map_cons, List.map_cons, kn_keys t, h.1]
theorem kn_mem : ∀ {kvs : List Ent} {rs : List Raw}, KN kvs rs → ∀ x ∈ rs, ∃ p ∈ kvs, p.1 = x.1 ∧ p.2.1 = x.2.1
  | _, _, .nil => fun x h => nomatch h
  | _, _, .cons h t => fun x hx => by
    rcases List.mem_cons.mp hx with e | e
    · rw [e]
      exact ⟨_, List.mem_cons_self, h.1, h.2.1⟩
    · obtain ⟨p, hp, q⟩ := kn_mem t x e
      exact ⟨p, List.mem_cons_of_mem _ hp, q⟩
def rDictPN (X : Cx) : List V → Hp → VK → Prop := fun xs H Q => ∃ (a : Addr) (ps : List Addr) (kvs : List Ent), xs = [.ref a] ∧ SqL X.K H a (ps.map V.ref) ∧ Paired (fun p e => SqT X.K H p [.ref e.2.1, e.2.2]) ps kvs ∧ KOks X.K H kvs ∧ (kvs.map (·.1)).Nodup ∧
  ∀ p, H p = none → Q (.ref p) (upd H p (DO X.prog X.w p kvs))
theorem call_dictPN (hc : X.calm = true) (hu : X.A.units + 16 < cLine) : CallR X (.type "dict") (rDictPN X) := by
  intro pins s σ H xs us Q I r h
  obtain ⟨a, ps, kvs, rfl, hs, hp, oks, nd, q⟩ := h
  obtain ⟨its, rv, hl, hz⟩ := I.list hs
  rw [Vals.ref1 r]
  have ei := refs_at rv
  subst ei
  rw [List.length_map] at hz
  obtain ⟨rs, kn, rl, hr⟩ := raws_of I hp
  have len : kvs.length = ps.length := kn.len.trans rl
  have his : ∀ h', (∀ b o, b ≠ s.heap.objs.size → b ∉ ([] : List Addr) → s.heap.get? b = some o → h'.get? b = some o) → ∀ x ∈ rs, (nestedKind X.prog X.w).is h' x.1 x.2.1 := fun h' kp x hx => by
    obtain ⟨p, hp', e1, e2⟩ := kn_mem kn x hx
    obtain ⟨n1, n2⟩ := oks p hp'
    have := ND.nk_is I _ _ _ n1 rfl
    rw [e1, e2] at this
    rw [e1] at n2
    exact ⟨NestedIs.at (fun b o vs n g _ => kp b o (Nat.ne_of_lt (Heap.lt_size g)) (by simp) g) _ _ this, n2⟩
  have room : (nestedKind X.prog X.w).room X.A.in1.in1 := by
    show X.A.in1.in1.units + 8 < cLine
    have h1 : X.A.in1.in1.units ≤ X.A.in1.units + 1 := by first | exact Nat.le_refl _ | (unfold Around.in1; simp)
    have h2 : X.A.in1.units ≤ X.A.units + 1 := by first | exact Nat.le_refl _ | (unfold Around.in1; simp)
    omega
  have PA := PairArg.list (prog := X.prog) (w := X.w) a (ps.map Value.ref).toArray (fun j => ps.getD j 0) (rs.map fun r => (Value.ref r.2.1, r.2.2))
  obtain ⟨o, n, ho, hcl, hd, hdat⟩ := hl
  refine call_dict_pairsH (knd := nestedKind X.prog X.w) (ps := rs) PA (I.ok.hd hc) room ⟨⟨o, n, ho, hcl, hd, hdat⟩, by simp [rl], fun j k v e => ?_⟩ ⟨by rw [List.length_map], fun i key v e => ?_⟩ his (by rw [List.length_map, rl]; exact hz) fun h' tk hd' kp => ?_
  · rw [List.getElem?_map] at e
    cases e2 : rs[j]? with
    | none => rw [e2] at e; cases e
    | some r0 =>
      rw [e2] at e
      obtain ⟨b, hb, ht⟩ := hr j r0 e2
      have e3 : (Value.ref r0.2.1, r0.2.2) = (k, v) := Option.some.inj e
      injection e3 with e4 e5
      rw [← e4, ← e5]
      have gd : ps.getD j 0 = b := by rw [List.getD_eq_getElem?_getD, hb]; rfl
      show (List.map Value.ref ps).toArray[j]? = some (Value.ref (ps.getD j 0)) ∧ PairAt s.heap (ps.getD j 0) _ _
      rw [gd]
      exact ⟨by simp [hb], .inl ht⟩
  · have e : (rs.map fun r => (Value.ref r.2.1, r.2.2))[i]? = some (key, v) := e
    rw [List.getElem?_map] at e
    cases e2 : rs[i]? with
    | none => rw [e2] at e; cases e
    | some r0 =>
      rw [e2] at e
      have e3 : (Value.ref r0.2.1, r0.2.2) = (key, v) := Option.some.inj e
      injection e3 with e4 e5
      rw [← e5]
      exact ⟨r0.1, r0.2.1, rfl, e4.symm⟩
  · have e : storedAllH [] rs = rs := stored_all rs [] (by rw [List.map_nil, List.nil_append, ← kn_keys kn]; exact nd)
    rw [e] at hd'
    have hm : (s.heap.objs.size == sysModules) = false := beq_eq_false_iff_ne.mpr (Nat.ne_of_gt I.big)
    exact ⟨.ref s.heap.objs.size, upd H s.heap.objs.size (DO X.prog X.w s.heap.objs.size kvs), I.laid (t' := tk) (fun b o g => kp b o (by simp) g) (Nat.le_refl _) (ND.do_new hm (by omega) kn hd'), rfl, q _ (I.hok.fresh (Nat.le_refl _))⟩
end
end DPN
/-! d[k] with nested keys, told without its context: for the blocks of comprehensions -/
namespace DGP
open PySem PySem.Spec PyProof.Rows L2
open ND (DO KOks NK NKs valN Ent)
set_option autoImplicit false
structure AtP (P : Program) (w : World) (K : PySem.W.Frag) (H : Hp) (d b : Addr) (kvs : List Ent) (k : NestedKey) : Prop where
  dic : Rd H d (DO P w d kvs)
  oks : KOks K H kvs
  key : NK K H k (.ref b)
  dep : k.depth ≤ 8
def tGetP (P : Program) (w : World) (K : PySem.W.Frag) (td ty : TE) : TE := fun σ H Q => td σ H fun x H1 => ty σ H1 fun y H2 => ∃ (d b : Addr) (kvs : List Ent) (k : NestedKey) (v : V), x = .ref d ∧ y = .ref b ∧ AtP P w K H2 d b kvs k ∧ valN kvs k = some v ∧ Q v H2
theorem pe_dgetP {X : Cx} {P : Program} {w : World} {K : PySem.W.Frag} {o i : Expr} {td ty : TE} {pos : Pos} (eP : X.prog = P) (ew : X.w = w) (eK : X.K = K) (hu : X.A.units + 9 < cLine) (ho : PE X o td) (hi : PE X i ty) (hs : NoSl i) : PE X (.Subscript o i pos) (tGetP P w K td ty) := by
  subst eP ew eK
  have at_ : ∀ (H : Hp) (d b : Addr) (kvs : List Ent) (k : NestedKey), AtP X.prog X.w X.K H d b kvs k = ND.At X H d b kvs k := fun H d b kvs k => propext ⟨fun h => ⟨h.dic, h.oks, h.key, h.dep⟩, fun h => ⟨h.dic, h.oks, h.key, h.dep⟩⟩
  have e : tGetP X.prog X.w X.K td ty = ND.tGetN X td ty := by
    unfold tGetP ND.tGetN
    simp only [at_]
  rw [e]
  exact ND.pe_dgetN hu ho hi hs
theorem pe_bmP {X : Cx} {K : PySem.W.Frag} {o e : Expr} {es : List Expr} {to : TE} {t : TA} {name : Str} {apos cpos : Pos} {T id : String} {r : V → List V → Hp → VK → Prop} (eK : X.K = K)
    (pa : PlainAttrs T) (slot : Slot T name id) (hty : typeOf (.builtin id) = pure (.type "method_descriptor")) (hm : MtR X id r) (ho : PE X o to) (ha : PA X (e :: es) t)
    (hbase : attributeBase o name X.env (eval o X.env) = eval o X.env := by rfl)
    (hfew : ((backTo cpos (starEach (e :: es) X.env)).all (fun x => !x.1) && (backToKw cpos (keywordEach [] X.env)).all (fun x => x.1.isSome)
      && decide ((e :: es).length + ([] : List Keyword).length + (if ([] : List Keyword).isEmpty then 0 else 1) < 30)) = true := by rfl)
    (hline : (apos.endLine == cpos.line) = true := by rfl) (hs : starEach (e :: es) X.env = (false, eval e X.env) :: starEach es X.env := by rfl) (hplain : (backTo cpos (starEach es X.env)).any (·.1) = false := by rfl) :
    PE X (.Call (.Attribute o name apos) (e :: es) [] cpos) (tBM K T r to t) := by
  subst eK
  exact pe_bm pa slot hty hm ho ha hbase hfew hline hs hplain
end DGP
/-! format_factor, format_product, is_inside, size_of_product, by_written_form -/
namespace DW
open PySem PySem.Spec PyProof.Rows L2 TL
set_option autoImplicit false
theorem tl_app2 (x y : Str) : tl (x ++ y) = tl x ++ tl y := Array.toList_append
/-! ### written forms -/
def fform (f : Fc) : Str := if f.1 = true then ("{" : Str) ++ f.2 ++ ("}*" : Str) else f.2 ++ ("?" : Str)
def pform (fs : List Fc) : Str := if fs = [] then "-" else Txt.join "" (fs.map fform)
def spFf (K : PySem.W.Frag) : Sp := fun vs H Q _ => ∃ (v : V) (f : Fc), vs = [v] ∧ IsF K H v f ∧ (ls f).length ≤ 1000 ∧ Q (.str (fform f)) H
def spFp (K : PySem.W.Frag) : Sp := fun vs H Q _ => ∃ (v : V) (fs : List Fc), vs = [v] ∧ IsP K H v fs ∧ (∀ f ∈ fs, (ls f).length ≤ 1000) ∧ fs.length ≤ 10000 ∧ ∀ H', Same H H' → Q (.str (pform fs)) H'
theorem fform_len {f : Fc} (h : (ls f).length ≤ 1000) : (fform f).length ≤ 1003 := by
  have e : ∀ y : Str, y.length = (tl y).length := fun y => (Array.length_toList).symm
  have h' : (tl f.2).length ≤ 1000 := h
  unfold fform
  split
  · rw [e, tl_app2, tl_app2, List.length_append, List.length_append]
    have e1 : (tl "{").length = 1 := by decide +kernel
    have e2 : (tl "}*").length = 2 := by decide +kernel
    omega
  · rw [e, tl_app2, List.length_append]
    have e2 : (tl "?").length = 1 := by decide +kernel
    omega
section
variable {P : Program} {w : World} {K : PySem.W.Frag} {mg : Str → Option Value} {base : Heap}
theorem scFf : FnScope ["factor", "kind", "letters"] ["factor"] (defScope sFormatFactor) := ⟨rfl, rfl, rfl, by decide +kernel, rfl, by decide +kernel, by decide +kernel⟩
theorem ok_ff (D : Df K mg "format_factor" sFormatFactor ["factor"]) : FnOk P w K mg base CX0 1 D.f D.fd ["factor"] (spFf K) := by
  refine D.F.ok scFf (fun vs H Q E h => ?_) (fun cdv A outer s H vs Q E hr h => ?_)
  · obtain ⟨v, f, rfl, _⟩ := h
    rfl
  · obtain ⟨v, f, rfl, ⟨a, rfl, ha⟩, fl, k⟩ := h
    have sz : ∀ y : Str, y.length = (tl y).length := fun y => (Array.length_toList).symm
    have fl' : (tl f.2).length ≤ 1000 := fl
    refine ⟨_, (pss_cons (ps_asg (pv 0) (pg_tup rfl (pgs_cons (pg_name (i := 1) scFf.nd rfl (.inl rfl)) (pgs_cons (pg_name (i := 2) scFf.nd rfl (.inl rfl)) pgs_nil)))) (pss_cons (ps_if (pt_cmpR op_eq (pv 1) pe_str (nomark _)) (pss_one (ps_ret (pe_op op_add_str (pv 2) pe_str))) pss_nil) (pss_one (ps_ret (pe_op op_add_str (pe_op op_add_str pe_str (pv 2)) pe_str))))), ?_⟩
    refine ⟨.ref a, rfl, a, _, rfl, ha, rfl, _, _, rfl, _, _, rfl, rfl, ?_⟩
    refine ⟨_, rfl, rfl, _, rfl, ?_⟩
    rw [kd_opt]
    unfold fform at k
    have l1 : ("?" : Str).length = 1 := by decide +kernel
    have l2 : ("{" : Str).length = 1 := by decide +kernel
    have l3 : ("}*" : Str).length = 2 := by decide +kernel
    cases q : f.1 with
    | false =>
      rw [q, if_neg (by simp)] at k
      exact iteT ⟨_, rfl, f.2, "?", rfl, rfl, by rw [l1, sz, sizeLine_eq]; omega, k⟩
    | true =>
      rw [q, if_pos rfl] at k
      refine iteF ⟨_, rfl, "{", f.2, rfl, rfl, by rw [l2, sz, sizeLine_eq]; omega, ("{" : Str) ++ f.2, "}*", rfl, rfl, ?_, k⟩
      rw [l3, sz, tl_app2, List.length_append, sizeLine_eq]
      have : (tl "{").length = 1 := by decide +kernel
      omega
theorem scFp : FnScope ["product", "factor"] ["product"] (defScope sFormatProduct) := ⟨rfl, rfl, rfl, by decide +kernel, rfl, by decide +kernel, by decide +kernel⟩
theorem ok_fp (D : Df K mg "format_product" sFormatProduct ["product"]) (Df0 : Df K mg "format_factor" sFormatFactor ["factor"]) (ml : mg "len" = none) (me0 : ∃ t, mg "EMPTY_FORM" = some (.str "-" t)) : FnOk P w K mg base CX0 2 D.f D.fd ["product"] (spFp K) := by
  have Gf : FnOk P w K mg base CX0 1 Df0.f Df0.fd ["factor"] (spFf K) := ok_ff Df0
  have me : ∃ u, mg "EMPTY_FORM" = some u ∧ RelV (.str "-") u := by
    obtain ⟨t, e⟩ := me0
    exact ⟨_, e, t, rfl⟩
  refine D.F.ok scFp (fun vs H Q E h => ?_) (fun cdv A outer s H vs Q E hr h => ?_)
  · obtain ⟨v, fs, rfl, _⟩ := h
    rfl
  · obtain ⟨v, fs, rfl, ⟨a, xs, rfl, ha, iF⟩, fl, l1, k⟩ := h
    have xl := iF.len
    refine ⟨_, (pss_cons (ps_if (pt_cmpR op_eq (pe_callB call_len_seq (by rfl) ml PySem.boot_len (pa_cons (pv 0) pa_nil)) pe_int (nomark _)) (pss_one (ps_ret (C8.pe_gc (by rfl) me))) pss_nil) (pss_one (ps_ret (pe_join pe_str (pe_lc (own := [("factor", 1)]) (g := gName 1) rfl scFp.nd (pi_tup (pv 0)) (blkOk_by (N := ["product", "factor"]) (sc := defScope sFormatProduct) (by decide +kernel)) (fun _ _ _ _ _ => pg_name (i := 1) scFp.nd rfl (Or.inl rfl)) (fun _ _ _ _ _ => pts_nil) (fun _ _ _ _ _ => (pe_call Gf hr (by rfl) Df0.g Df0.F.kp Df0.b .nil pass0 (pa_cons (pv 1) pa_nil)))))))), ?_⟩
    refine ⟨.ref a, rfl, a, xs, rfl, .inr ha, rfl, _, rfl, ?_⟩
    refine ite2 (fun e => ?_) (fun e => ?_)
    · have e' : fs = [] := by
        have := V.int.inj (of_decide_eq_true e)
        exact List.length_eq_zero_iff.mp (by omega)
      have q := k _ (Same.refl _)
      unfold pform at q
      rw [if_pos e'] at q
      exact q
    · have ne : fs ≠ [] := fun z => e (decide_eq_true (by rw [xl, z]; rfl))
      refine ⟨⟨_, rfl⟩, .ref a, rfl, a, rfl, ⟨_, ha⟩, fun L hL => ?_⟩
      have sL := same_upd (o := .lst []) hL
      refine lc_it (walk_tup (xs := xs)) (fun i H' => H' L = some (.lst (((fs.take i).map fform).map V.str)) ∧ Same H H') ⟨upd_same, sL⟩ (fun _ _ _ ⟨_, sm⟩ => same_tup sm _ _ ha) ?_ ?_
      · rintro i x G G' hi ⟨gL, sm⟩ ⟨rfl, hx⟩
        obtain ⟨f, hf, isf⟩ := iF.get i x hx
        refine ⟨rfl, yes ?_⟩
        refine ⟨x, rfl, x, f, rfl, isf.mono (same_tup sm), fl f (List.mem_of_getElem? hf), ?_⟩
        refine ⟨_, gL, ?_, ?_, fun b o e => (upd_ne (ne_of_none e hL)).trans (sm _ _ e)⟩
        · rw [List.length_map, List.length_map, List.length_take, sizeLine_eq]
          omega
        · rw [upd_same, List.take_add_one, hf, List.map_append, List.map_append]
          rfl
      · rintro G ⟨gL, sm⟩
        rw [xl, List.take_length] at gL
        refine ⟨"", L, fs.map fform, rfl, rfl, .inl (SqL.of gL), ?_, ?_⟩
        · have bound : ∀ gs : List Fc, (∀ f ∈ gs, (ls f).length ≤ 1000) → (((gs.map fform).map (·.length)).sum ≤ 1003 * gs.length) := by
            intro gs
            induction gs with
            | nil => intro _; exact Nat.le_refl _
            | cons g gs ih =>
              intro hg
              have h1 := fform_len (hg g List.mem_cons_self)
              have h2 := ih fun f hf => hg f (List.mem_cons_of_mem _ hf)
              simp only [List.map_cons, List.sum_cons, List.length_cons]
              omega
          have := bound fs fl
          have e0 : ("" : Str).length = 0 := rfl
          rw [e0, Nat.mul_zero]
          omega
        · have q := k _ sm
          unfold pform at q
          rw [if_neg ne] at q
          exact q
/-! ### is_inside -/
inductive IsL (K : PySem.W.Frag) (H : Hp) : List V → List (List Fc) → Prop where
  | nil : IsL K H [] []
  | cons {v : V} {f : List Fc} {vs : List V} {fs : List (List Fc)} (h : IsP K H v f) (r : IsL K H vs fs) : IsL K H (v :: vs) (f :: fs)
theorem IsL.mono {H H' : Hp} (m : ∀ b xs, SqT K H b xs → SqT K H' b xs) : ∀ {vs : List V} {fs : List (List Fc)}, IsL K H vs fs → IsL K H' vs fs
  | _, _, .nil => .nil
  | _, _, .cons a r => .cons (a.mono m) (r.mono m)
theorem IsL.len {H : Hp} : ∀ {vs : List V} {fs : List (List Fc)}, IsL K H vs fs → vs.length = fs.length
  | _, _, .nil => rfl
  | _, _, .cons _ r => by rw [List.length_cons, List.length_cons, r.len]
theorem IsL.get {H : Hp} : ∀ {vs : List V} {fs : List (List Fc)}, IsL K H vs fs → ∀ (i : Nat) (v : V), vs[i]? = some v → ∃ f, fs[i]? = some f ∧ IsP K H v f
  | _, _, .nil, i, v, h => by simp at h
  | _, _, .cons a r, 0, v, h => by
    have e := Option.some.inj h
    subst e
    exact ⟨_, rfl, a⟩
  | _, _, .cons a r, i + 1, v, h => r.get i v h
theorem IsL.app {H : Hp} : ∀ {vs us : List V} {fs gs : List (List Fc)}, IsL K H vs fs → IsL K H us gs → IsL K H (vs ++ us) (fs ++ gs)
  | _, _, _, _, .nil, h => h
  | _, _, _, _, .cons a r, h => .cons a (r.app h)
def spIn (K : PySem.W.Frag) : Sp := fun vs H Q _ => ∃ (v : V) (a : Addr) (p : List Fc) (xs : List V) (qs : List (List Fc)), vs = [v, .ref a] ∧ IsP K H v p ∧ SqL K H a xs ∧ IsL K H xs qs ∧ (∀ f ∈ p, Low f) ∧ (∀ q ∈ qs, ∀ g ∈ q, Low g) ∧ ∀ H', Same H H' → Q (.bl (qs.any fun q => inc q p)) H'
theorem same_lst {H H' : Hp} {a : Addr} {xs : List V} (s : Same H H') (h : SqL K H a xs) : SqL K H' a xs := by
  rcases h with (h | ⟨o, h⟩) | h
  · exact .inl (.inl (s _ _ h))
  · exact .inl (.inr ⟨o, s _ _ h⟩)
  · exact .inr h
theorem scIn : FnScope ["product", "products", "other"] ["product", "products"] (defScope sIsInside) := ⟨rfl, rfl, rfl, by decide +kernel, rfl, by decide +kernel, by decide +kernel⟩
theorem ok_in (D : Df K mg "is_inside" sIsInside ["product", "products"]) (Di : DfIncl K mg) (ma : mg "all" = none) (ml : mg "len" = none) : FnOk P w K mg base CX0 5 D.f D.fd ["product", "products"] (spIn K) := by
  have Gi : FnOk P w K mg base CX0 4 Di.i.f Di.i.fd ["product", "other"] (spIncl K) := ok_incl Di ma ml
  refine D.F.ok scIn (fun vs H Q E h => ?_) (fun cdv A outer s H vs Q E hr h => ?_)
  · obtain ⟨v, a, p, xs, qs, rfl, _⟩ := h
    rfl
  · obtain ⟨v, a, p, xs, qs, rfl, isp, ha, iL, lp, lq, k⟩ := h
    have xl := iL.len
    refine ⟨_, PSs.nox (pss_cons (ps_for PassesOwn.never rfl (pi_list (pv 1)) (pg_name (i := 2) scIn.nd rfl (.inl rfl)) (pss_one (ps_if (pt_val (pe_call Gi hr (by rfl) Di.i.g Di.i.F.kp Di.i.b .nil pass0 (pa_cons (pv 0) (pa_cons (pv 2) pa_nil)))) (pss_one (ps_ret pe_bl)) pss_nil))) (pss_one (ps_ret pe_bl))), ?_⟩
    refine ⟨.ref a, rfl, a, rfl, ⟨xs, ha⟩, for_it (walk_list (xs := xs)) (fun i σ H' => ∃ y2 : Option V, σ = [some v, some (.ref a), y2] ∧ Same H H' ∧ ((qs.take i).any fun q => inc q p) = false) ⟨_, rfl, Same.refl _, rfl⟩ (fun _ _ _ _ ⟨_, _, sm, _⟩ => same_lst sm ha) ?_ ?_⟩
    · rintro i x σ G G' hi ⟨y2, rfl, sm, no⟩ ⟨rfl, hx⟩
      obtain ⟨q, hq, isq⟩ := iL.get i x hx
      have qm : q ∈ qs := List.mem_of_getElem? hq
      refine ⟨v, rfl, x, rfl, v, x, p, q, rfl, isp.mono (same_tup sm), isq.mono (same_tup sm), lp, lq q qm, fun H2 s2 => ⟨_, rfl, ite2 (fun e => ?_) (fun e => ?_)⟩⟩
      · have e2 : (qs.any fun q => inc q p) = true := List.any_eq_true.mpr ⟨q, qm, e⟩
        show Q (.bl true) _
        rw [← e2]
        exact k _ (sm.trans s2)
      · refine ⟨_, rfl, sm.trans s2, ?_⟩
        rw [List.take_add_one, hq, List.any_append, no]
        simpa using e
    · rintro σ G ⟨y2, rfl, sm, no⟩
      rw [xl, List.take_length] at no
      show Q (.bl false) _
      rw [← no]
      exact k _ sm
/-! ### by_written_form -/
theorem scBw : FnScope ["products"] ["products"] (defScope sByWrittenForm) := ⟨rfl, rfl, rfl, by decide +kernel, rfl, by decide +kernel, by decide +kernel⟩
/-- what a value's product is written as -/
def spBw (K : PySem.W.Frag) : Sp := fun vs H Q _ => ∃ (a : Addr) (xs : List V) (qs : List (List Fc)), vs = [.ref a] ∧ SqL K H a xs ∧ IsL K H xs qs ∧ (∀ q ∈ qs, (∀ f ∈ q, (ls f).length ≤ 1000) ∧ q.length ≤ 10000) ∧
  ∀ H' p ys zs, Same H H' → H p = none → H' p = some (.lst ys) → IsL K H' ys zs → zs = qs.mergeSort (fun x y => decide (tl (pform x) ≤ tl (pform y))) → Q (.ref p) H'
/-- lists that belong together stay so when both are sorted -/
theorem IsL.sorted {H : Hp} {g : V → Str} {xs : List V} {qs : List (List Fc)} (h : IsL K H xs qs) (hg : ∀ (i : Nat) (v : V) (q : List Fc), xs[i]? = some v → qs[i]? = some q → g v = pform q) : IsL K H (xs.mergeSort (SK.leG g)) (qs.mergeSort fun x y => decide (tl (pform x) ≤ tl (pform y))) := by
  have xl := h.len
  let zs := xs.zip qs
  have e1 : zs.map Prod.fst = xs := List.map_fst_zip (by omega)
  have e2 : zs.map Prod.snd = qs := List.map_snd_zip (by omega)
  have mem : ∀ z ∈ zs, IsP K H z.1 z.2 ∧ g z.1 = pform z.2 := by
    intro z hz
    obtain ⟨i, hi⟩ := List.getElem?_of_mem hz
    obtain ⟨h1, h2⟩ := List.getElem?_zip_eq_some.mp hi
    obtain ⟨f, hf, isf⟩ := h.get i _ h1
    rw [h2] at hf
    cases hf
    exact ⟨isf, hg i _ _ h1 h2⟩
  let le : V × List Fc → V × List Fc → Bool := fun x y => decide (tl (pform x.2) ≤ tl (pform y.2))
  have m1 : (zs.mergeSort le).map Prod.fst = xs.mergeSort (SK.leG g) := by
    rw [List.map_mergeSort (r := le) (s := SK.leG g) (f := Prod.fst) (fun a ha b hb => ?_), e1]
    unfold SK.leG
    rw [PySem.W.dataLe_str]
    show decide (tl (pform a.2) ≤ tl (pform b.2)) = decide (tl (g a.1) ≤ tl (g b.1))
    rw [(mem a ha).2, (mem b hb).2]
  have m2 : (zs.mergeSort le).map Prod.snd = qs.mergeSort fun x y => decide (tl (pform x) ≤ tl (pform y)) := by
    rw [List.map_mergeSort (r := le) (s := fun x y => decide (tl (pform x) ≤ tl (pform y))) (f := Prod.snd) (fun a ha b hb => rfl), e2]
  rw [← m1, ← m2]
  have all : ∀ l : List (V × List Fc), (∀ z ∈ l, IsP K H z.1 z.2) → IsL K H (l.map Prod.fst) (l.map Prod.snd) := by
    intro l
    induction l with
    | nil => intro _; exact .nil
    | cons z l ih => exact fun hl => .cons (hl z List.mem_cons_self) (ih fun y hy => hl y (List.mem_cons_of_mem _ hy))
  exact all _ fun z hz => (mem z ((List.mergeSort_perm zs le).mem_iff.mp hz)).1
open Classical in
theorem form_of {H : Hp} {xs : List V} {qs : List (List Fc)} (h : IsL K H xs qs) (inj : ∀ (v : V) (p q : List Fc), IsP K H v p → IsP K H v q → p = q) : ∃ g : V → Str, ∀ (i : Nat) (v : V) (q : List Fc), xs[i]? = some v → qs[i]? = some q → g v = pform q := by
  refine ⟨fun v => if c : ∃ q, IsP K H v q then pform c.choose else "", fun i v q hv hq => ?_⟩
  obtain ⟨f, hf, isf⟩ := h.get i v hv
  rw [hq] at hf
  cases hf
  have c : ∃ q, IsP K H v q := ⟨q, isf⟩
  show (if c : ∃ q, IsP K H v q then pform c.choose else "") = pform q
  rw [dif_pos c, inj v _ _ c.choose_spec isf]
end
end DW
/-! by_written_form, size_of_product -/
namespace DW
open PySem PySem.Spec PyProof.Rows L2 TL
set_option autoImplicit false
theorem isF_inj {K : PySem.W.Frag} {H : Hp} (ti : SK.TInj K H) {v : V} {f g : Fc} (a : IsF K H v f) (b : IsF K H v g) : f = g := by
  obtain ⟨x, rfl, hx⟩ := a
  obtain ⟨y, e, hy⟩ := b
  cases e
  have e := ti _ _ _ hx hy
  injection e with e1 e2
  injection e2 with e2 _
  have k1 := kd_inj (V.str.inj e1)
  have k2 := V.str.inj e2
  obtain ⟨f1, f2⟩ := f
  obtain ⟨g1, g2⟩ := g
  simp only at k1 k2
  rw [k1, k2]
theorem isFs_inj {K : PySem.W.Frag} {H : Hp} (ti : SK.TInj K H) : ∀ {vs : List V} {fs gs : List Fc}, IsFs K H vs fs → IsFs K H vs gs → fs = gs
  | _, _, _, .nil, h => by cases h; rfl
  | _, _, _, .cons a r, h => by
    cases h with
    | cons b q => rw [isF_inj ti a b, isFs_inj ti r q]
theorem isP_inj {K : PySem.W.Frag} {H : Hp} (ti : SK.TInj K H) (v : V) (p q : List Fc) (a : IsP K H v p) (b : IsP K H v q) : p = q := by
  obtain ⟨x, xs, rfl, hx, iF⟩ := a
  obtain ⟨y, ys, e, hy, iG⟩ := b
  cases e
  have e := ti _ _ _ hx hy
  subst e
  exact isFs_inj ti iF iG
section
variable {P : Program} {w : World} {K : PySem.W.Frag} {mg : Str → Option Value} {base : Heap}
structure DfBw (K : PySem.W.Frag) (mg : Str → Option Value) where
  b : Df K mg "by_written_form" sByWrittenForm ["products"]
  p : Df K mg "format_product" sFormatProduct ["product"]
  f : Df K mg "format_factor" sFormatFactor ["factor"]
  ml : mg "len" = none
  me : ∃ t, mg "EMPTY_FORM" = some (.str "-" t)
  ms : mg "sorted" = none
theorem ok_bw (D : DfBw K mg) : FnOk P w K mg base CX0 5 D.b.f D.b.fd ["products"] (spBw K) := by
  have Gp : FnOk P w K mg base CX0 2 D.p.f D.p.fd ["product"] (spFp K) := ok_fp D.p D.f D.ml D.me
  refine D.b.F.ok scBw (fun vs H Q E h => ?_) (fun cdv A outer s H vs Q E hr h => ?_)
  · obtain ⟨a, xs, qs, rfl, _⟩ := h
    rfl
  · obtain ⟨a, xs, qs, rfl, ha, iL, lq, k⟩ := h
    refine ⟨_, pss_one (ps_ret (SK.pe_sortedFn Gp hr D.p.b (by rfl) D.ms (by rfl) D.p.g (pa_cons (pv 0) pa_nil))), ?_⟩
    refine ⟨.ref a, rfl, fun ti => ?_⟩
    obtain ⟨g, hg⟩ := form_of iL (isP_inj ti)
    refine ⟨a, xs, g, rfl, ha, fun x hx H' sm => ?_, fun H2 p sm hn hp => ?_⟩
    · obtain ⟨i, hi⟩ := List.getElem?_of_mem hx
      obtain ⟨q, hq, isq⟩ := iL.get i x hi
      obtain ⟨l1, l2⟩ := lq q (List.mem_of_getElem? hq)
      exact ⟨x, q, rfl, isq.mono (same_tup sm), l1, l2, fun H2 s2 => ⟨by rw [hg i x q hi hq], s2⟩⟩
    · exact k H2 p _ _ sm hn hp ((iL.mono (same_tup sm)).sorted hg) rfl
/-! ### size_of_product -/
def szs (fs : List Fc) : List Int := fs.map fun f => if f.1 = true then ((ls f).length : Int) else 0
def sizeT (fs : List Fc) : List Int := [((szs fs).count 3 : Nat), ((szs fs).count 2 : Nat), ((szs fs).count 1 : Nat), ((szs fs).count 0 : Nat)]
def spSz (K : PySem.W.Frag) : Sp := fun vs H Q _ => ∃ (v : V) (fs : List Fc), vs = [v] ∧ IsP K H v fs ∧ (∀ f ∈ fs, (ls f).length ≤ 1000) ∧ fs.length ≤ 10000 ∧ ∀ H' p, Same H H' → H p = none → H' p = some (.tup ((sizeT fs).map V.int)) → Q (.ref p) H'
theorem scSz : FnScope ["product", "sizes", "kind", "letters", "size"] ["product"] (defScope sSizeOfProduct) := ⟨rfl, rfl, rfl, by decide +kernel, rfl, by decide +kernel, by decide +kernel⟩
theorem ok_sz (D : Df K mg "size_of_product" sSizeOfProduct ["product"]) (ml : mg "len" = none) (mt : mg "tuple" = none) (mr : mg "reversed" = none) (mg0 : mg "range" = none) (mm0 : ∃ t, mg "MOST_LETTERS" = some (.int 3 t)) : FnOk P w K mg base CX0 1 D.f D.fd ["product"] (spSz K) := by
  have mm : ∃ u, mg "MOST_LETTERS" = some u ∧ RelV (.int 3) u := by
    obtain ⟨t, e⟩ := mm0
    exact ⟨_, e, t, rfl⟩
  refine D.F.ok scSz (fun vs H Q E h => ?_) (fun cdv A outer s H vs Q E hr h => ?_)
  · obtain ⟨v, fs, rfl, _⟩ := h
    rfl
  · obtain ⟨v, fs, rfl, ⟨a, xs, rfl, ha, iF⟩, fl, l1, k⟩ := h
    have xl := iF.len
    have sz : ∀ y : Str, y.length = (tl y).length := fun y => (Array.length_toList).symm
    refine ⟨_, (pss_cons (ps_set (i := 1) scSz.nd rfl (.inr rfl) (pe_lc (own := [("kind", 2), ("letters", 3)]) (g := gTup K 2 (gCons (gName 2) (gCons (gName 3) gNil))) rfl scSz.nd (pi_tup (pv 0)) (blkOk_by (N := ["product", "sizes", "kind", "letters", "size"]) (sc := defScope sSizeOfProduct) (by decide +kernel)) (fun _ _ _ _ _ => (pg_tup rfl (pgs_cons (pg_name (i := 2) scSz.nd rfl (.inl rfl)) (pgs_cons (pg_name (i := 3) scSz.nd rfl (.inl rfl)) pgs_nil)))) (fun _ _ _ _ _ => pts_nil) (fun _ _ _ _ _ => (pe_ifExp (pt_cmpR op_eq (pv 2) pe_str (nomark _)) (pe_callB call_len_str (by rfl) ml PySem.boot_len (pa_cons (pv 3) pa_nil)) pe_int)))) (pss_one (ps_ret (pe_callTy call_tuple_of (by rfl) mt (by decide +kernel) (pa_cons (pe_lc (te := tBM K "list" (rCntI K) (tVar 1) (tCons (tVar 4) tNil)) (own := [("size", 4)]) (g := gName 4) rfl scSz.nd (pi_revR (by rfl) mr (prg_1 (by rfl) mg0 (pe_op op_add (C8.pe_gc (by rfl) mm) pe_int))) (blkOk_by (N := ["product", "sizes", "kind", "letters", "size"]) (sc := defScope sSizeOfProduct) (by decide +kernel)) (fun _ _ _ _ _ => pg_name (i := 4) scSz.nd rfl (Or.inl rfl)) (fun _ _ _ _ _ => pts_nil) (fun _ _ _ _ _ => (pe_bm PySem.F.plainAttrs_list PySem.F.slot_list_count PySem.F.type_list_count mt_lcount (pv 1) (pa_cons (pv 4) pa_nil)))) pa_nil))))), ?_⟩
    refine ⟨.ref a, rfl, a, rfl, ⟨xs, ha⟩, fun L hL => ?_⟩
    have sL := same_upd (o := .lst []) hL
    refine lc_it (walk_tup (xs := xs)) (fun i H' => H' L = some (.lst ((szs (fs.take i)).map V.int)) ∧ Same H H') ⟨upd_same, sL⟩ (fun _ _ _ ⟨_, sm⟩ => same_tup sm _ _ ha) ?_ ?_
    · rintro i x G G' hi ⟨gL, sm⟩ ⟨rfl, hx⟩
      obtain ⟨f, hf, b, rfl, hb⟩ := iF.get i x hx
      have f1 : (tl f.2).length ≤ 1000 := fl f (List.mem_of_getElem? hf)
      refine ⟨b, _, rfl, same_tup sm _ _ hb, rfl, _, _, rfl, _, _, rfl, rfl, rfl, yes ?_⟩
      have tk : szs (fs.take (i + 1)) = szs (fs.take i) ++ [if f.1 = true then ((ls f).length : Int) else 0] := by
        unfold szs
        rw [List.take_add_one, hf, List.map_append]
        rfl
      have size1 : ((szs (fs.take i)).map V.int).length < sizeLine := by
        unfold szs
        rw [List.length_map, List.length_map, List.length_take, sizeLine_eq]
        omega
      refine ⟨_, rfl, rfl, _, rfl, ?_⟩
      rw [kd_star]
      cases q : f.1 with
      | true =>
        refine iteT ⟨_, rfl, f.2, rfl, by rw [sz, sizeLine_eq]; omega, _, gL, size1, ?_, fun b o e => (upd_ne (ne_of_none e hL)).trans (sm _ _ e)⟩
        rw [upd_same, tk, q, if_pos rfl, List.map_append, sz]
        rfl
      | false =>
        refine iteF ⟨_, gL, size1, ?_, fun b o e => (upd_ne (ne_of_none e hL)).trans (sm _ _ e)⟩
        rw [upd_same, tk, q, if_neg (by simp), List.map_append]
        rfl
    · rintro G ⟨gL, sm⟩
      rw [xl, List.take_length] at gL
      refine ⟨3, 1, rfl, rfl, 4, rfl, by decide, by decide, by decide, by decide, fun M hM => ?_⟩
      have sM := same_upd (o := .lst []) hM
      have gLM := sM _ _ gL
      have c4 : ∀ (i : Nat), i < 4 → ((((szs fs).count ((3 : Int) + (i : Nat) * (-1)) : Nat) : Int)) = ((sizeT fs)[i]?).getD 0 := by
        intro i hi
        match i, hi with
        | 0, _ => rfl
        | 1, _ => rfl
        | 2, _ => rfl
        | 3, _ => rfl
      refine lc_it walk_rangeC (fun i H' => H' M = some (.lst (((sizeT fs).take i).map V.int)) ∧ H' L = some (.lst ((szs fs).map V.int)) ∧ Same H H') ⟨upd_same, gLM, sm.trans sM⟩ (fun _ _ _ _ => trivial) ?_ ?_
      · rintro i x G1 G2 hi ⟨gM, gL2, sm2⟩ ⟨rfl, rfl⟩
        have hi' : i < 4 := hi
        refine ⟨rfl, yes ?_⟩
        refine ⟨_, rfl, .inl ⟨rfl, _, SqL.of gL2⟩, _, rfl, L, szs fs, _, rfl, rfl, SqL.of gL2, _, gM, ?_, ?_, ?_, ?_⟩
        · rw [List.length_map, List.length_take, sizeLine_eq]
          omega
        · rw [upd_same]
          have e := c4 i hi'
          have e2 : (sizeT fs)[i]? = some (((sizeT fs)[i]?).getD 0) := by
            match i, hi' with
            | 0, _ => rfl
            | 1, _ => rfl
            | 2, _ => rfl
            | 3, _ => rfl
          rw [List.take_add_one, e2, List.map_append, ← e]
          rfl
        · rw [upd_ne (ne_of_none gL hM)]
          exact gL2
        · exact fun b o e => (upd_ne (ne_of_none (sm _ _ e) hM)).trans (sm2 _ _ e)
      · rintro G1 ⟨gM, gL2, sm2⟩
        refine ⟨M, _, rfl, .inl ⟨SqL.of gM, fun p hp => ?_⟩⟩
        have sp := same_upd (o := .tup (((sizeT fs).take 4).map V.int)) hp
        refine k _ p (sm2.trans sp) (sm2.free hp) upd_same
end
end DW
/-! maximal_products -/
namespace DW
open PySem PySem.Spec PyProof.Rows L2 TL
set_option autoImplicit false
open ND (Ent DO KOks NK NKs valN putN setN keyVs)
/-! ### keys -/
def facKey (f : Fc) : NestedKey := .tup [.text (kd f.1), .text f.2]
def prodKey (fs : List Fc) : NestedKey := .tup (fs.map facKey)
def numKey (ns : List Int) : NestedKey := .tup (ns.map NestedKey.num)
theorem facKey_inj {f g : Fc} (h : facKey f = facKey g) : f = g := by
  unfold facKey at h
  injection h with h
  injection h with h1 h2
  injection h1 with h1
  injection h2 with h2 _
  injection h2 with h2
  have k := kd_inj h1
  obtain ⟨a, b⟩ := f
  obtain ⟨c, d⟩ := g
  simp only at k h2
  rw [k, h2]
theorem prodKey_inj : ∀ {p q : List Fc}, prodKey p = prodKey q → p = q := by
  intro p q h
  unfold prodKey at h
  injection h with h
  exact (List.map_inj_right (f := facKey) fun a b e => facKey_inj e).mp h
theorem num_inj {a b : Int} (h : NestedKey.num a = NestedKey.num b) : a = b := by injection h
theorem numKey_inj {p q : List Int} (h : numKey p = numKey q) : p = q := by
  unfold numKey at h
  injection h with h
  exact (List.map_inj_right (f := NestedKey.num) fun a b e => num_inj e).mp h
theorem isF_nk {K : PySem.W.Frag} {H : Hp} {v : V} {f : Fc} (h : IsF K H v f) : NK K H (facKey f) v := by
  obtain ⟨a, rfl, q⟩ := h
  exact .tup q (.cons (.text _) (.cons (.text _) .nil))
theorem isFs_nk {K : PySem.W.Frag} {H : Hp} : ∀ {vs : List V} {fs : List Fc}, IsFs K H vs fs → NKs K H (fs.map facKey) vs
  | _, _, .nil => .nil
  | _, _, .cons a r => .cons (isF_nk a) (isFs_nk r)
theorem isP_nk {K : PySem.W.Frag} {H : Hp} {v : V} {fs : List Fc} (h : IsP K H v fs) : NK K H (prodKey fs) v := by
  obtain ⟨a, xs, rfl, q, r⟩ := h
  exact .tup q (isFs_nk r)
theorem nums_nk {K : PySem.W.Frag} {H : Hp} : ∀ ns : List Int, NKs K H (ns.map NestedKey.num) (ns.map V.int)
  | [] => .nil
  | n :: ns => .cons (.num n) (nums_nk ns)
theorem depth_fs : ∀ fs : List Fc, NestedKey.depthAll (fs.map facKey) ≤ 1
  | [] => by simp [NestedKey.depthAll]
  | f :: fs => by
    have := depth_fs fs
    simp only [List.map_cons, NestedKey.depthAll, facKey, NestedKey.depth]
    omega
theorem depth_prod (fs : List Fc) : (prodKey fs).depth ≤ 8 := by
  have := depth_fs fs
  simp only [prodKey, NestedKey.depth]
  omega
theorem depth_nums : ∀ ns : List Int, NestedKey.depthAll (ns.map NestedKey.num) = 0
  | [] => by simp [NestedKey.depthAll]
  | n :: ns => by
    have := depth_nums ns
    simp only [List.map_cons, NestedKey.depthAll, NestedKey.depth, this]
    rfl
theorem depth_num (ns : List Int) : (numKey ns).depth ≤ 8 := by
  simp only [numKey, NestedKey.depth, depth_nums]
  omega
/-! ### groups -/
abbrev Gp : Type := List Int × List (List Fc)
structure Grp (ps : List (List Fc)) (Gs : List Gp) : Prop where
  mem : ∀ r, (∃ g ∈ Gs, r ∈ g.2) ↔ ∃ p ∈ ps, r = red p
  key : ∀ g ∈ Gs, ∀ r ∈ g.2, sizeT r = g.1
  nd : ∀ g ∈ Gs, g.2.Nodup
  kn : (Gs.map (·.1)).Nodup
def addR (rs : List (List Fc)) (r : List Fc) : List (List Fc) := if r ∈ rs then rs else rs ++ [r]
theorem addR_mem {rs : List (List Fc)} {r x : List Fc} : x ∈ addR rs r ↔ x ∈ rs ∨ x = r := by
  unfold addR
  split
  · rename_i h
    exact ⟨.inl, fun z => z.elim id fun e => by rw [e]; exact h⟩
  · simp
theorem addR_nd {rs : List (List Fc)} {r : List Fc} (h : rs.Nodup) : (addR rs r).Nodup := by
  unfold addR
  split
  · exact h
  · rename_i n
    exact List.nodup_append.mpr ⟨h, by simp, fun a ha b hb e => n (by rw [List.mem_singleton.mp hb] at e; rw [← e]; exact ha)⟩
theorem grp_old {ps : List (List Fc)} {Gs : List Gp} {p : List Fc} {j : Nat} {g : Gp} (G : Grp ps Gs) (hj : Gs[j]? = some g) (hk : sizeT (red p) = g.1) : Grp (ps ++ [p]) (Gs.set j (g.1, addR g.2 (red p))) := by
  have jl := (List.getElem?_eq_some_iff.mp hj).1
  have gm : g ∈ Gs := List.mem_of_getElem? hj
  have mset : ∀ x ∈ Gs.set j (g.1, addR g.2 (red p)), x ∈ Gs ∨ x = (g.1, addR g.2 (red p)) := fun x hx => List.mem_or_eq_of_mem_set hx
  have mnew : (g.1, addR g.2 (red p)) ∈ Gs.set j (g.1, addR g.2 (red p)) := List.mem_set jl _
  refine ⟨fun r => ⟨?_, ?_⟩, fun x hx r hr => ?_, fun x hx => ?_, ?_⟩
  · rintro ⟨x, hx, hr⟩
    rcases mset x hx with e | e
    · obtain ⟨p', h1, h2⟩ := (G.mem r).mp ⟨x, e, hr⟩
      exact ⟨p', List.mem_append_left _ h1, h2⟩
    · rw [e] at hr
      rcases addR_mem.mp hr with q | q
      · obtain ⟨p', h1, h2⟩ := (G.mem r).mp ⟨g, gm, q⟩
        exact ⟨p', List.mem_append_left _ h1, h2⟩
      · exact ⟨p, by simp, q⟩
  · rintro ⟨p', h1, h2⟩
    rcases List.mem_append.mp h1 with q | q
    · obtain ⟨x, hx, hr⟩ := (G.mem r).mpr ⟨p', q, h2⟩
      obtain ⟨i, hi⟩ := List.getElem?_of_mem hx
      by_cases e : i = j
      · rw [e, hj] at hi
        cases hi
        exact ⟨_, mnew, addR_mem.mpr (.inl hr)⟩
      · refine ⟨x, List.mem_of_getElem? (i := i) ?_, hr⟩
        rw [List.getElem?_set_ne (Ne.symm e)]
        exact hi
    · rw [List.mem_singleton.mp q] at h2
      exact ⟨_, mnew, addR_mem.mpr (.inr h2)⟩
  · rcases mset x hx with e | e
    · exact G.key x e r hr
    · rw [e] at hr ⊢
      rcases addR_mem.mp hr with q | q
      · exact G.key g gm r q
      · rw [q]
        exact hk
  · rcases mset x hx with e | e
    · exact G.nd x e
    · rw [e]
      exact addR_nd (G.nd g gm)
  · have e : (Gs.set j (g.1, addR g.2 (red p))).map (·.1) = Gs.map (·.1) := by
      rw [List.map_set]
      refine List.ext_getElem? fun n => ?_
      by_cases q : j = n
      · rw [← q, List.getElem?_set_self (by rw [List.length_map]; exact jl), List.getElem?_map, hj]
        rfl
      · rw [List.getElem?_set_ne q]
    rw [e]
    exact G.kn
theorem grp_new {ps : List (List Fc)} {Gs : List Gp} {p : List Fc} (G : Grp ps Gs) (hk : ∀ g ∈ Gs, g.1 ≠ sizeT (red p)) : Grp (ps ++ [p]) (Gs ++ [(sizeT (red p), [red p])]) := by
  refine ⟨fun r => ⟨?_, ?_⟩, fun x hx r hr => ?_, fun x hx => ?_, ?_⟩
  · rintro ⟨x, hx, hr⟩
    rcases List.mem_append.mp hx with e | e
    · obtain ⟨p', h1, h2⟩ := (G.mem r).mp ⟨x, e, hr⟩
      exact ⟨p', List.mem_append_left _ h1, h2⟩
    · rw [List.mem_singleton.mp e] at hr
      exact ⟨p, by simp, List.mem_singleton.mp hr⟩
  · rintro ⟨p', h1, h2⟩
    rcases List.mem_append.mp h1 with q | q
    · obtain ⟨x, hx, hr⟩ := (G.mem r).mpr ⟨p', q, h2⟩
      exact ⟨x, List.mem_append_left _ hx, hr⟩
    · rw [List.mem_singleton.mp q] at h2
      exact ⟨(sizeT (red p), [red p]), by simp, by rw [h2]; simp⟩
  · rcases List.mem_append.mp hx with e | e
    · exact G.key x e r hr
    · rw [List.mem_singleton.mp e] at hr ⊢
      rw [List.mem_singleton.mp hr]
  · rcases List.mem_append.mp hx with e | e
    · exact G.nd x e
    · rw [List.mem_singleton.mp e]
      simp
  · rw [List.map_append]
    refine List.nodup_append.mpr ⟨G.kn, by simp, fun a ha b hb e => ?_⟩
    obtain ⟨g, hg, rfl⟩ := List.mem_map.mp ha
    rw [List.map_singleton] at hb
    rw [List.mem_singleton.mp hb] at e
    exact hk g hg e
/-- the products that are kept, group by group -/
def keepG (M : List (List Fc)) (g : Gp) : List (List Fc) := M ++ g.2.filter fun r => !(M.any fun m => inc m r)
def pickM (Gs : List Gp) : List (List Fc) := Gs.foldl keepG []
def leK (a b : Gp) : Bool := PySem.W.dataLe true (fun g : Gp => (numKey g.1).data) a b
/-! ### the dicts -/
structure RW (K : PySem.W.Frag) (H : Hp) (rows : List Ent) (rs : List (List Fc)) : Prop where
  keys : rows.map (·.1) = rs.map prodKey
  isp : ∀ (i : Nat) (e : Ent) (r : List Fc), rows[i]? = some e → rs[i]? = some r → IsP K H (.ref e.2.1) r
theorem RW.len {K : PySem.W.Frag} {H : Hp} {rows : List Ent} {rs : List (List Fc)} (h : RW K H rows rs) : rows.length = rs.length := by
  have e := congrArg List.length h.keys
  rw [List.length_map, List.length_map] at e
  exact e
theorem RW.mono {K : PySem.W.Frag} {H H' : Hp} {rows : List Ent} {rs : List (List Fc)} (m : ∀ b xs, SqT K H b xs → SqT K H' b xs) (h : RW K H rows rs) : RW K H' rows rs := ⟨h.keys, fun i e r h1 h2 => (h.isp i e r h1 h2).mono m⟩
theorem RW.key {K : PySem.W.Frag} {H : Hp} {rows : List Ent} {rs : List (List Fc)} (h : RW K H rows rs) {i : Nat} {e : Ent} (he : rows[i]? = some e) : ∃ r, rs[i]? = some r ∧ e.1 = prodKey r := by
  have il := (List.getElem?_eq_some_iff.mp he).1
  have hl := h.len
  refine ⟨rs[i], List.getElem?_eq_getElem (by omega), ?_⟩
  have k1 : (rows.map (·.1))[i]? = some e.1 := by rw [List.getElem?_map, he]; rfl
  rw [h.keys, List.getElem?_map, List.getElem?_eq_getElem (by omega)] at k1
  exact (Option.some.inj k1).symm
theorem RW.oks {K : PySem.W.Frag} {H : Hp} {rows : List Ent} {rs : List (List Fc)} (h : RW K H rows rs) : KOks K H rows := fun e he => by
  obtain ⟨i, hi⟩ := List.getElem?_of_mem he
  obtain ⟨r, hr, ek⟩ := h.key hi
  rw [ek]
  exact ⟨isP_nk (h.isp i e r hi hr), depth_prod r⟩
theorem valN_none {kvs : List Ent} {k : NestedKey} (h : valN kvs k = none) : ∀ e ∈ kvs, e.1 ≠ k := fun e he z => by
  unfold valN at h
  rw [Option.map_eq_none_iff, List.find?_eq_none] at h
  exact h e he (decide_eq_true z)
theorem valN_some {kvs : List Ent} {k : NestedKey} {v : V} (h : valN kvs k = some v) : ∃ (j : Nat) (e : Ent), kvs[j]? = some e ∧ e.1 = k ∧ v = e.2.2 := by
  unfold valN at h
  obtain ⟨e, he, rfl⟩ := Option.map_eq_some_iff.mp h
  obtain ⟨j, hj⟩ := List.getElem?_of_mem (List.mem_of_find?_eq_some he)
  have hp := List.find?_some (p := fun p : Ent => decide (p.1 = k)) he
  exact ⟨j, e, hj, of_decide_eq_true hp, rfl⟩
theorem valN_get {kvs : List Ent} (nd : (kvs.map (·.1)).Nodup) {j : Nat} {e : Ent} (h : kvs[j]? = some e) : valN kvs e.1 = some e.2.2 := by
  cases q : valN kvs e.1 with
  | none => exact absurd rfl (valN_none q e (List.mem_of_getElem? h))
  | some v =>
    obtain ⟨i, e', hi, ek, ev⟩ := valN_some q
    have k1 : (kvs.map (·.1))[i]? = some e.1 := by rw [List.getElem?_map, hi, ← ek]; rfl
    have k2 : (kvs.map (·.1))[j]? = some e.1 := by rw [List.getElem?_map, h]; rfl
    have ij : i = j := (List.getElem?_inj (List.getElem?_eq_some_iff.mp k1).1 nd).mp (k1.trans k2.symm)
    rw [ij, h] at hi
    cases hi
    rw [ev]
theorem RW.put {K : PySem.W.Frag} {H : Hp} {rows : List Ent} {rs : List (List Fc)} {r : List Fc} {b : Addr} (h : RW K H rows rs) (hb : IsP K H (.ref b) r) : RW K H (putN rows (prodKey r) b (.bl true)) (addR rs r) := by
  have hl := h.len
  unfold putN
  cases q : valN rows (prodKey r) with
  | none =>
    have nr : r ∉ rs := fun hr => by
      obtain ⟨i, hi⟩ := List.getElem?_of_mem hr
      have il := (List.getElem?_eq_some_iff.mp hi).1
      have he : rows[i]? = some (rows[i]'(by omega)) := List.getElem?_eq_getElem (by omega)
      obtain ⟨r', hr', ek⟩ := h.key he
      rw [hi] at hr'
      cases hr'
      exact valN_none q _ (List.mem_of_getElem? he) ek
    rw [if_neg (by simp)]
    unfold addR
    rw [if_neg nr]
    refine ⟨by rw [List.map_append, List.map_append, h.keys]; rfl, fun i e x h1 h2 => ?_⟩
    by_cases c : i < rows.length
    · rw [List.getElem?_append_left c] at h1
      rw [List.getElem?_append_left (by omega)] at h2
      exact h.isp i e x h1 h2
    · rw [List.getElem?_append_right (by omega)] at h1
      rw [List.getElem?_append_right (by omega), ← hl] at h2
      generalize i - rows.length = m at h1 h2
      match m, h1, h2 with
      | 0, h1, h2 =>
        cases h1
        cases h2
        exact hb
      | m + 1, h1, _ => simp at h1
  | some v =>
    obtain ⟨i, e, hi, ek, _⟩ := valN_some q
    obtain ⟨r', hr', ek'⟩ := h.key hi
    have rr : r = r' := prodKey_inj (ek.symm.trans ek')
    rw [if_pos (show (some v).isSome = true from rfl)]
    unfold addR
    rw [if_pos (by rw [rr]; exact List.mem_of_getElem? hr')]
    have fst : ∀ e : Ent, (setN (prodKey r) (.bl true) e).1 = e.1 ∧ (setN (prodKey r) (.bl true) e).2.1 = e.2.1 := fun e => by
      unfold setN
      split <;> exact ⟨rfl, rfl⟩
    refine ⟨?_, fun n x y h1 h2 => ?_⟩
    · rw [List.map_map, ← h.keys]
      exact List.map_congr_left fun e _ => (fst e).1
    · rw [List.getElem?_map] at h1
      obtain ⟨x0, hx0, rfl⟩ := Option.map_eq_some_iff.mp h1
      rw [(fst x0).2]
      exact h.isp n x0 y hx0 h2
theorem RW.isl {K : PySem.W.Frag} {H : Hp} : ∀ {rows : List Ent} {rs : List (List Fc)}, RW K H rows rs → IsL K H (keyVs rows) rs
  | [], [], _ => .nil
  | [], _ :: _, h => by have := h.len; cases this
  | _ :: _, [], h => by have := h.len; cases this
  | e :: rows, r :: rs, h => by
    refine .cons (h.isp 0 e r rfl rfl) (RW.isl ⟨?_, fun i x y h1 h2 => h.isp (i + 1) x y h1 h2⟩)
    have := h.keys
    rw [List.map_cons, List.map_cons] at this
    exact (List.cons.inj this).2
/-- the dict of groups -/
structure EG (P : Program) (w : World) (K : PySem.W.Frag) (H : Hp) (e : Ent) (g : Gp) : Prop where
  key : e.1 = numKey g.1
  tup : SqT K H e.2.1 (g.1.map V.int)
  dic : ∃ (Di : Addr) (rows : List Ent), e.2.2 = .ref Di ∧ H Di = some (DO P w Di rows) ∧ RW K H rows g.2
structure GD (P : Program) (w : World) (K : PySem.W.Frag) (H0 H : Hp) (D0 : Addr) (kvs : List Ent) (Gs : List Gp) : Prop where
  at0 : H D0 = some (DO P w D0 kvs)
  new0 : H0 D0 = none
  len : kvs.length = Gs.length
  eg : ∀ (i : Nat) (e : Ent) (g : Gp), kvs[i]? = some e → Gs[i]? = some g → EG P w K H e g
  dn : ∀ (i j : Nat) (e e' : Ent), kvs[i]? = some e → kvs[j]? = some e' → i ≠ j → e.2.2 ≠ e'.2.2
  nw : ∀ e ∈ kvs, ∃ Di, e.2.2 = .ref Di ∧ H0 Di = none ∧ Di ≠ D0
theorem GD.gp {P : Program} {w : World} {K : PySem.W.Frag} {H0 H : Hp} {D0 : Addr} {kvs : List Ent} {Gs : List Gp} (G : GD P w K H0 H D0 kvs Gs) {i : Nat} {e : Ent} (he : kvs[i]? = some e) : ∃ g, Gs[i]? = some g ∧ EG P w K H e g := by
  have il := (List.getElem?_eq_some_iff.mp he).1
  have hl := G.len
  have hg : Gs[i]? = some (Gs[i]'(by omega)) := List.getElem?_eq_getElem (by omega)
  exact ⟨_, hg, G.eg i e _ he hg⟩
theorem GD.oks {P : Program} {w : World} {K : PySem.W.Frag} {H0 H : Hp} {D0 : Addr} {kvs : List Ent} {Gs : List Gp} (G : GD P w K H0 H D0 kvs Gs) : KOks K H kvs := fun e he => by
  obtain ⟨i, hi⟩ := List.getElem?_of_mem he
  obtain ⟨g, _, q⟩ := G.gp hi
  rw [q.key]
  exact ⟨.tup q.tup (nums_nk _), depth_num _⟩
theorem GD.keys {P : Program} {w : World} {K : PySem.W.Frag} {H0 H : Hp} {D0 : Addr} {kvs : List Ent} {Gs : List Gp} (G : GD P w K H0 H D0 kvs Gs) : kvs.map (·.1) = Gs.map fun g => numKey g.1 := by
  refine List.ext_getElem? fun n => ?_
  rw [List.getElem?_map, List.getElem?_map]
  have hl := G.len
  by_cases c : n < kvs.length
  · have h1 : kvs[n]? = some kvs[n] := List.getElem?_eq_getElem c
    obtain ⟨g, hg, q⟩ := G.gp h1
    rw [h1, hg]
    exact congrArg some q.key
  · rw [List.getElem?_eq_none (by omega), List.getElem?_eq_none (by omega)]
    rfl
theorem GD.same {P : Program} {w : World} {K : PySem.W.Frag} {H0 H H' : Hp} {D0 : Addr} {kvs : List Ent} {Gs : List Gp} (G : GD P w K H0 H D0 kvs Gs) (s : Same H H') : GD P w K H0 H' D0 kvs Gs := by
  refine ⟨s _ _ G.at0, G.new0, G.len, fun i e g h1 h2 => ?_, G.dn, G.nw⟩
  obtain ⟨k, t, Di, rows, e1, e2, e3⟩ := G.eg i e g h1 h2
  exact ⟨k, same_tup s _ _ t, Di, rows, e1, s _ _ e2, e3.mono (same_tup s)⟩
/-- a store at a dict leaves the tuples -/
theorem upd_do {P : Program} {w : World} {K : PySem.W.Frag} {H : Hp} {D : Addr} {kvs : List Ent} {o : HO} (hD : H D = some (DO P w D kvs)) (b : Addr) (xs : List V) (h : SqT K H b xs) : SqT K (upd H D o) b xs := by
  rcases h with (h | ⟨u, h⟩) | h
  · exact .inl (.inl ((upd_ne (ne_of h hD (by intro z; cases z))).trans h))
  · exact .inl (.inr ⟨u, (upd_ne (ne_of h hD (by intro z; cases z))).trans h⟩)
  · exact .inr h
end DW
/-! maximal_products: the code -/
namespace DW
open PySem PySem.Spec PyProof.Rows L2 TL
set_option autoImplicit false
open ND (Ent DO KOks NK NKs valN putN setN keyVs)
theorem u9 {k : Nat} {A : Around} (hr : Room k A) : A.units + 9 < cLine := by
  have := hr.units
  omega
section
variable {P : Program} {w : World} {K : PySem.W.Frag} {H0 H : Hp} {D0 : Addr} {kvs : List Ent} {Gs : List Gp}
theorem gd_old (G : GD P w K H0 H D0 kvs Gs) {j : Nat} {e : Ent} {g : Gp} {Dj b : Addr} {rows : List Ent} {r : List Fc} (he : kvs[j]? = some e) (hg : Gs[j]? = some g) (ev : e.2.2 = .ref Dj) (hD : H Dj = some (DO P w Dj rows)) (rw' : RW K H rows g.2) (hb : IsP K H (.ref b) r) :
    GD P w K H0 (upd H Dj (DO P w Dj (putN rows (prodKey r) b (.bl true)))) D0 kvs (Gs.set j (g.1, addR g.2 r)) := by
  have nj : Dj ≠ D0 := by
    obtain ⟨Di, e1, _, e3⟩ := G.nw e (List.mem_of_getElem? he)
    rw [ev] at e1
    cases e1
    exact e3
  have m := fun b xs h => upd_do (K := K) (o := DO P w Dj (putN rows (prodKey r) b (.bl true))) hD b xs h
  have jl := (List.getElem?_eq_some_iff.mp hg).1
  refine ⟨(upd_ne nj.symm).trans G.at0, G.new0, by rw [List.length_set]; exact G.len, fun i e' g' h1 h2 => ?_, G.dn, G.nw⟩
  by_cases q : j = i
  · subst q
    rw [he] at h1
    cases h1
    rw [List.getElem?_set_self jl] at h2
    cases h2
    have E := G.eg j e g he hg
    exact ⟨E.key, upd_do hD _ _ E.tup, Dj, _, ev, upd_same, (rw'.put hb).mono (fun b xs h => upd_do hD b xs h)⟩
  · rw [List.getElem?_set_ne q] at h2
    obtain ⟨k, t, Di, rows', e1, e2, e3⟩ := G.eg i e' g' h1 h2
    have ne : Di ≠ Dj := fun z => G.dn j i e e' he h1 q (by rw [ev, e1, z])
    exact ⟨k, upd_do hD _ _ t, Di, rows', e1, (upd_ne ne).trans e2, e3.mono (fun b xs h => upd_do hD b xs h)⟩
theorem gd_new (G : GD P w K H0 H D0 kvs Gs) {De ka b : Addr} {r : List Fc} {ns : List Int} (hDe : H De = some (DO P w De [])) (n0 : H0 De = none) (ne0 : De ≠ D0) (nei : ∀ e ∈ kvs, e.2.2 ≠ .ref De) (hka : SqT K H ka (ns.map V.int)) (hb : IsP K H (.ref b) r) :
    GD P w K H0 (upd (upd H D0 (DO P w D0 (kvs ++ [(numKey ns, ka, .ref De)]))) De (DO P w De (putN [] (prodKey r) b (.bl true)))) D0 (kvs ++ [(numKey ns, ka, .ref De)]) (Gs ++ [(ns, [r])]) := by
  have hDe1 : (upd H D0 (DO P w D0 (kvs ++ [(numKey ns, ka, .ref De)]))) De = some (DO P w De []) := (upd_ne ne0).trans hDe
  have m : ∀ c xs, SqT K H c xs → SqT K (upd (upd H D0 (DO P w D0 (kvs ++ [(numKey ns, ka, .ref De)]))) De (DO P w De (putN [] (prodKey r) b (.bl true)))) c xs := fun c xs h => upd_do hDe1 c xs (upd_do G.at0 c xs h)
  have hl := G.len
  refine ⟨(upd_ne ne0.symm).trans upd_same, G.new0, by rw [List.length_append, List.length_append, hl]; rfl, fun i e g h1 h2 => ?_, fun i j e e' h1 h2 ne => ?_, fun e he => ?_⟩
  · by_cases c : i < kvs.length
    · rw [List.getElem?_append_left c] at h1
      rw [List.getElem?_append_left (by omega)] at h2
      obtain ⟨k, t, Di, rows', e1, e2, e3⟩ := G.eg i e g h1 h2
      have nd : Di ≠ De := fun z => nei e (List.mem_of_getElem? h1) (by rw [e1, z])
      have n0' : Di ≠ D0 := by
        obtain ⟨Dx, x1, _, x3⟩ := G.nw e (List.mem_of_getElem? h1)
        rw [e1] at x1
        cases x1
        exact x3
      exact ⟨k, m _ _ t, Di, rows', e1, (upd_ne nd).trans ((upd_ne n0').trans e2), e3.mono m⟩
    · rw [List.getElem?_append_right (by omega)] at h1
      rw [List.getElem?_append_right (by omega), ← hl] at h2
      generalize i - kvs.length = n at h1 h2
      match n, h1, h2 with
      | 0, h1, h2 =>
        cases h1
        cases h2
        have r0 : RW K H [] [] := ⟨rfl, fun i e r h _ => by simp at h⟩
        exact ⟨rfl, m _ _ hka, De, _, rfl, upd_same, (r0.put hb).mono m⟩
      | n + 1, h1, _ => simp at h1
  · have last : ∀ (i : Nat) (e : Ent), (kvs ++ [(numKey ns, ka, V.ref De)])[i]? = some e → ¬ i < kvs.length → i = kvs.length ∧ e = (numKey ns, ka, .ref De) := by
      intro i e h c
      rw [List.getElem?_append_right (by omega)] at h
      generalize q : i - kvs.length = n at h
      match n, h with
      | 0, h => exact ⟨by omega, (Option.some.inj h).symm⟩
      | n + 1, h => simp at h
    by_cases c : i < kvs.length
    · by_cases d : j < kvs.length
      · rw [List.getElem?_append_left c] at h1
        rw [List.getElem?_append_left d] at h2
        exact G.dn i j e e' h1 h2 ne
      · obtain ⟨_, rfl⟩ := last j e' h2 d
        rw [List.getElem?_append_left c] at h1
        exact nei e (List.mem_of_getElem? h1)
    · obtain ⟨q1, rfl⟩ := last i e h1 c
      by_cases d : j < kvs.length
      · rw [List.getElem?_append_left d] at h2
        exact fun z => nei e' (List.mem_of_getElem? h2) z.symm
      · obtain ⟨q2, _⟩ := last j e' h2 d
        exact absurd (q1.trans q2.symm) ne
  · rcases List.mem_append.mp he with q | q
    · exact G.nw e q
    · rw [List.mem_singleton.mp q]
      exact ⟨De, rfl, n0, ne0⟩
theorem datas_nums : ∀ ns : List Int, NestedKey.datas (ns.map NestedKey.num) = ns.map PyData.int
  | [] => by simp [NestedKey.datas]
  | n :: ns => by
    rw [List.map_cons, List.map_cons, NestedKey.datas, datas_nums ns, NestedKey.data]
theorem data_num (ns : List Int) : (numKey ns).data = .tuple (ns.map PyData.int) := by
  unfold numKey
  rw [NestedKey.data, datas_nums]
theorem depth_ints : ∀ ns : List Int, PyData.depthAll (ns.map PyData.int) = 0
  | [] => by simp [PyData.depthAll]
  | n :: ns => by
    rw [List.map_cons, PyData.depthAll, depth_ints ns, PyData.depth]
    rfl
theorem upd_frz {K : PySem.W.Frag} {H : Hp} {D : Addr} {od : Obj} {u o : HO} (hD : H D = some (.frz od u)) (nt : ∀ xs, u ≠ .tup xs) (b : Addr) (xs : List V) (h : SqT K H b xs) : SqT K (upd H D o) b xs := by
  rcases h with (h | ⟨v, h⟩) | h
  · exact .inl (.inl ((upd_ne (ne_of h hD (by intro z; cases z))).trans h))
  · exact .inl (.inr ⟨v, (upd_ne (ne_of h hD (by intro z; injection z with _ z; exact nt _ z.symm))).trans h⟩)
  · exact .inr h
theorem gd_zip (G : GD P w K H0 H D0 kvs Gs) : ∃ Zs : List (Ent × Gp), kvs.mergeSort (PySem.W.dataLe true fun p : Ent => p.1.data) = Zs.map (·.1) ∧ Gs.mergeSort leK = Zs.map (·.2) ∧ Zs.length = kvs.length ∧ ∀ z ∈ Zs, ∃ i : Nat, kvs[i]? = some z.1 ∧ Gs[i]? = some z.2 := by
  have hl := G.len
  have mz : ∀ z ∈ kvs.zip Gs, ∃ i : Nat, kvs[i]? = some z.1 ∧ Gs[i]? = some z.2 := fun z hz => by
    obtain ⟨i, hi⟩ := List.getElem?_of_mem hz
    exact ⟨i, List.getElem?_zip_eq_some.mp hi⟩
  have kz : ∀ z ∈ kvs.zip Gs, z.1.1 = numKey z.2.1 := fun z hz => by
    obtain ⟨i, h1, h2⟩ := mz z hz
    exact (G.eg i _ _ h1 h2).key
  refine ⟨(kvs.zip Gs).mergeSort (fun a b => leK a.2 b.2), ?_, ?_, ?_, fun z hz => mz z (List.mem_mergeSort.mp hz)⟩
  · rw [List.map_mergeSort (s := PySem.W.dataLe true fun p : Ent => p.1.data) (f := fun z : Ent × Gp => z.1) fun a ha b hb => ?_]
    · rw [List.map_fst_zip (by omega)]
    · show PySem.W.dataLe true (fun g : Gp => (numKey g.1).data) a.2 b.2 = PySem.W.dataLe true (fun p : Ent => p.1.data) a.1 b.1
      rw [PySem.W.dataLe_eq, PySem.W.dataLe_eq]
      simp only [cond_true]
      rw [kz a ha, kz b hb]
  · rw [List.map_mergeSort (s := leK) (f := fun z : Ent × Gp => z.2) fun a ha b hb => rfl]
    rw [List.map_snd_zip (by omega)]
  · rw [List.length_mergeSort, List.length_zip]
    omega
theorem pick_sub : ∀ (l : List Gp) (M : List (List Fc)) (r : List Fc), r ∈ l.foldl keepG M → r ∈ M ∨ ∃ g ∈ l, r ∈ g.2
  | [], M, r, h => .inl h
  | g :: l, M, r, h => by
    rcases pick_sub l _ r h with q | ⟨g', h1, h2⟩
    · rcases List.mem_append.mp q with q | q
      · exact .inl q
      · exact .inr ⟨g, List.mem_cons_self, (List.mem_filter.mp q).1⟩
    · exact .inr ⟨g', List.mem_cons_of_mem _ h1, h2⟩
end
theorem few_of {α : Type} [DecidableEq α] : ∀ (l m : List α), l.Nodup → (∀ x ∈ l, x ∈ m) → l.length ≤ m.length
  | [], _, _, _ => Nat.zero_le _
  | x :: l, m, nd, h => by
    obtain ⟨hx, nd'⟩ := List.nodup_cons.mp nd
    have ih := few_of l (m.erase x) nd' fun y hy => (List.mem_erase_of_ne (fun (e : y = x) => hx (by rw [← e]; exact hy))).mpr (h y (List.mem_cons_of_mem _ hy))
    rw [List.length_erase_of_mem (h x List.mem_cons_self)] at ih
    have := List.length_pos_of_mem (h x List.mem_cons_self)
    rw [List.length_cons]
    omega
theorem grp_total {ps : List (List Fc)} {Gs : List Gp} (gr : Grp ps Gs) : (Gs.map fun g => g.2.length).sum ≤ ps.length := by
  have nd : (Gs.map (·.2)).flatten.Nodup := by
    refine List.pairwise_flatten.mpr ⟨fun l hl => ?_, List.pairwise_map.mpr ?_⟩
    · obtain ⟨g, hg, rfl⟩ := List.mem_map.mp hl
      exact gr.nd g hg
    · refine List.Pairwise.imp_of_mem (fun {a b} ha hb ne x hx y hy e => ne ?_) (List.pairwise_map.mp gr.kn)
      rw [← gr.key a ha x hx, ← gr.key b hb y hy, e]
  have h := few_of (Gs.map (·.2)).flatten (ps.map red) nd fun x hx => by
    obtain ⟨l, hl, hx⟩ := List.mem_flatten.mp hx
    obtain ⟨g, hg, rfl⟩ := List.mem_map.mp hl
    obtain ⟨p, hp, rfl⟩ := (gr.mem x).mp ⟨g, hg, hx⟩
    exact List.mem_map_of_mem hp
  rw [List.length_flatten, List.length_map, List.map_map] at h
  exact h
theorem take_total (l : List Nat) (i : Nat) : (l.take i).sum ≤ l.sum := by
  conv => rhs; rw [← List.take_append_drop i l, List.sum_append]
  exact Nat.le_add_right _ _
/-! ### what is promised -/
def MaxOf (ps zs : List (List Fc)) : Prop := ∃ Gs : List Gp, Grp ps Gs ∧ zs = (pickM (Gs.mergeSort leK)).mergeSort (fun x y => decide (tl (pform x) ≤ tl (pform y)))
def spMx (K : PySem.W.Frag) : Sp := fun vs H Q _ => ∃ (a : Addr) (xs : List V) (ps : List (List Fc)), vs = [.ref a] ∧ SqL K H a xs ∧ IsL K H xs ps ∧ ps.length ≤ 1000000 ∧ (∀ p ∈ ps, p.length ≤ 10000 ∧ ∀ f ∈ p, Low f) ∧
  ∀ H' q ys zs, Same H H' → H q = none → H' q = some (.lst ys) → IsL K H' ys zs → MaxOf ps zs → Q (.ref q) H'
theorem red_le (fs : List Fc) : (red fs).length ≤ fs.length := by
  have h : ∀ (fs st : List Fc), (fs.foldl stp st).length ≤ st.length + fs.length := by
    intro fs
    induction fs with
    | nil => intro st; exact Nat.le_refl _
    | cons f fs ih =>
      intro st
      have h1 := ih (stp st f)
      have h2 := stp_len st f
      rw [List.foldl_cons, List.length_cons]
      omega
  have q := h fs []
  unfold red
  rw [List.length_reverse]
  simpa using q
theorem addR_len (rs : List (List Fc)) (r : List Fc) : (addR rs r).length ≤ rs.length + 1 := by
  unfold addR
  split
  · omega
  · rw [List.length_append]
    exact Nat.le_refl _
section
variable {P : Program} {w : World} {K : PySem.W.Frag} {mg : Str → Option Value} {base : Heap}
theorem scMx : FnScope ["products", "groups", "product", "reduced", "group", "maximal", "size"] ["products"] (defScope sMaximalProducts) := ⟨rfl, rfl, rfl, by decide +kernel, rfl, by decide +kernel, by decide +kernel⟩
structure DfMx (K : PySem.W.Frag) (mg : Str → Option Value) where
  m : Df K mg "maximal_products" sMaximalProducts ["products"]
  r : Df K mg "reduce_product" sReduceProduct ["product"]
  z : Df K mg "size_of_product" sSizeOfProduct ["product"]
  i : Df K mg "is_inside" sIsInside ["product", "products"]
  incl : DfIncl K mg
  bw : DfBw K mg
  ma : mg "all" = none
  mt : mg "tuple" = none
  mr : mg "reversed" = none
  mg0 : mg "range" = none
  mm : ∃ t, mg "MOST_LETTERS" = some (.int 3 t)
theorem ok_mx (D : DfMx K mg) : FnOk P w K mg base CX0 6 D.m.f D.m.fd ["products"] (spMx K) := by
  have Gr : FnOk P w K mg base CX0 2 D.r.f D.r.fd ["product"] (spRd K) := ok_rd D.r D.incl.s D.ma D.mt
  have Gz : FnOk P w K mg base CX0 1 D.z.f D.z.fd ["product"] (spSz K) := ok_sz D.z D.bw.ml D.mt D.mr D.mg0 D.mm
  have Gi : FnOk P w K mg base CX0 5 D.i.f D.i.fd ["product", "products"] (spIn K) := ok_in D.i D.incl D.ma D.bw.ml
  have Gb : FnOk P w K mg base CX0 5 D.bw.b.f D.bw.b.fd ["products"] (spBw K) := ok_bw D.bw
  refine D.m.F.ok scMx (fun vs H Q E h => ?_) (fun cdv A outer s H vs Q E hr h => ?_)
  · obtain ⟨a, xs, ps, rfl, _⟩ := h
    rfl
  · obtain ⟨a, xs, ps, rfl, ha, iL, pl, pok, k⟩ := h
    have hr1 : Room 1 _ := hr.mono (by decide)
    have hr2 : Room 2 _ := hr.mono (by decide)
    have xl := iL.len
    refine ⟨_, PSs.nox (pss_cons (ps_set (i := 1) scMx.nd rfl (.inl rfl) ND.pe_dnewN) (pss_cons (ps_for PassesOwn.never rfl (pi_list (pv 0)) (pg_name (i := 2) scMx.nd rfl (.inl rfl)) (pss_cons (ps_set (i := 3) scMx.nd rfl (.inl rfl) (pe_call Gr hr2 (by rfl) D.r.g D.r.F.kp D.r.b .nil pass0 (pa_cons (pv 2) pa_nil))) (pss_cons (ps_set (i := 4) scMx.nd rfl (.inl rfl) (ND.pe_dsetdN (u9 hr) (pv 1) (pe_call Gz hr1 (by rfl) D.z.g D.z.F.kp D.z.b .nil pass0 (pa_cons (pv 3) pa_nil)) ND.pe_dnewN ⟨by rfl, by rfl, by rfl, by rfl⟩)) (pss_one (ND.ps_dputN (u9 hr) (pv 4) (pv 3) pe_bl rfl))))) (pss_cons (ps_set (i := 5) scMx.nd rfl (.inr rfl) (pe_lst pa_nil)) (pss_cons (ps_for PassesOwn.never rfl (pi_list (pe_callBK (ND.cr_sortedD (b := true) rfl hr.units) (by rfl) D.bw.ms (by decide +kernel) (pa_cons (pv 1) pa_nil) (pk_cons pe_bl pk_nil))) (pg_name (i := 6) scMx.nd rfl (.inl rfl)) (pss_one (ps_set (i := 5) scMx.nd rfl (.inr rfl) (pe_op op_cat (pv 5) (pe_lock (pe_lc (own := [("product", 2)]) (g := gName 2) rfl scMx.nd (ND.pi_keysN (ND.pe_dgetN (u9 hr) (pv 1) (pv 6) (fun _ _ => rfl))) (blkOk_by (N := ["products", "groups", "product", "reduced", "group", "maximal", "size"]) (sc := defScope sMaximalProducts) (by decide +kernel)) (fun _ _ _ _ _ => pg_name (i := 2) scMx.nd rfl (Or.inl rfl)) (fun _ _ _ _ _ => (pts_one (pt_not (pt_val (pe_call Gi hr (by rfl) D.i.g D.i.F.kp D.i.b .nil pass0 (pa_cons (pv 2) (pa_cons (pv 5) pa_nil))))))) (fun _ _ _ _ _ => (pv 2)))))))) (pss_one (ps_ret (pe_call Gb hr (by rfl) D.bw.b.g D.bw.b.F.kp D.bw.b.b .nil pass0 (pa_cons (pv 5) pa_nil)))))))), ?_⟩
    intro D0 hD0
    have s0 := same_upd (o := DO P w D0 []) hD0
    have GD0 : GD P w K H (upd H D0 (DO P w D0 [])) D0 [] [] := ⟨upd_same, hD0, rfl, fun i e g h _ => by simp at h, fun i j e e' h _ _ => by simp at h, fun e he => (nomatch he)⟩
    have Gr0 : Grp (ps.take 0) [] := ⟨fun r => ⟨fun ⟨g, hg, _⟩ => (nomatch hg), fun ⟨p, hp, _⟩ => (nomatch hp)⟩, fun g hg => (nomatch hg), fun g hg => (nomatch hg), List.nodup_nil⟩
    refine ⟨.ref a, rfl, a, rfl, ⟨xs, same_lst s0 ha⟩, for_it (walk_list (xs := xs)) (fun i σ G => ∃ (kvs : List Ent) (Gs : List Gp) (y2 y3 y4 : Option V), σ = [some (.ref a), some (.ref D0), y2, y3, y4, none, none] ∧ GD P w K H G D0 kvs Gs ∧ Grp (ps.take i) Gs ∧ kvs.length ≤ i ∧ (∀ g ∈ Gs, g.2.length ≤ i ∧ g.1 ≠ []) ∧ Same H G)
      ⟨[], [], _, _, _, rfl, GD0, Gr0, Nat.le_refl _, fun g hg => (nomatch hg), s0⟩ (fun _ _ _ _ ⟨_, _, _, _, _, _, _, _, _, _, sm⟩ => same_lst sm ha) ?_ ?_⟩
    · rintro i x σ G G' hi ⟨kvs, Gs, y2, y3, y4, rfl, gd, gr, kl, gl, sm⟩ ⟨rfl, hx⟩
      obtain ⟨p, hp, isp0⟩ := iL.get i x hx
      have pm : p ∈ ps := List.mem_of_getElem? hp
      have il : i < ps.length := (List.getElem?_eq_some_iff.mp hp).1
      obtain ⟨p1, p2⟩ := pok p pm
      have rlow : ∀ f ∈ red p, Low f := fun f hf => p2 f (red_mem hf)
      have tk : ps.take (i + 1) = ps.take i ++ [p] := by rw [List.take_add_one, hp]; rfl
      refine ⟨x, rfl, x, p, rfl, isp0.mono (same_tup sm), fun f hf => (p2 f hf).2, by omega, fun H2 u s2 isr => ?_⟩
      have gd2 := gd.same s2
      obtain ⟨b, xr, rfl, hb, iFr⟩ := id isr
      have rl := red_le p
      refine ⟨.ref D0, rfl, D0, kvs, rfl, gd2.at0, gd2.oks, .ref b, rfl, .ref b, red p, rfl, isr, fun f hf => (rlow f hf).2, by omega, fun H3 ka s3 nka hka => ?_⟩
      intro De hDe
      have gd3 := gd2.same s3
      have s4 := same_upd (o := DO P w De []) hDe
      have gd4 := gd3.same s4
      have sm4 := ((sm.trans s2).trans s3).trans s4
      have hka4 : SqT K (upd H3 De (DO P w De [])) ka ((sizeT (red p)).map V.int) := same_tup s4 _ _ (SqT.of hka)
      have isr4 : IsP K (upd H3 De (DO P w De [])) (.ref b) (red p) := isr.mono (same_tup (s3.trans s4))
      have hDe4 : (upd H3 De (DO P w De [])) De = some (DO P w De []) := upd_same
      refine ⟨ka, kvs, numKey (sizeT (red p)), rfl, gd4.at0, gd4.oks, .tup hka4 (nums_nk _), depth_num _, by rw [sizeLine_eq]; omega, fun v hv => ?_, fun hv => ?_⟩
      · obtain ⟨j, e, he, ek, rfl⟩ := valN_some hv
        obtain ⟨g, hg, E⟩ := gd4.gp he
        obtain ⟨Dj, rows, ev, hDj, rw1⟩ := E.dic
        have kg : sizeT (red p) = g.1 := (numKey_inj (E.key.symm.trans ek)).symm
        have gm : g ∈ Gs := List.mem_of_getElem? hg
        rw [ev]
        refine ⟨.ref Dj, rfl, .ref b, rfl, Dj, b, rows, prodKey (red p), rfl, rfl, hDj, rw1.oks, isP_nk isr4, depth_prod _, ?_, ?_⟩
        · rw [rw1.len, sizeLine_eq]
          have := (gl g gm).1
          omega
        refine ⟨kvs, _, _, _, _, rfl, gd_old gd4 he hg ev hDj rw1 isr4, ?_, by omega, fun g' hg' => ?_, ?_⟩
        · rw [tk]
          exact grp_old gr hg kg
        · rcases List.mem_or_eq_of_mem_set hg' with q | q
          · have := (gl g' q).1
            exact ⟨by omega, (gl g' q).2⟩
          · rw [q]
            have h1 := addR_len g.2 (red p)
            have h2 := (gl g gm).1
            refine ⟨?_, (gl g gm).2⟩
            show (addR g.2 (red p)).length ≤ i + 1
            omega
        · obtain ⟨Dx, x1, x2, _⟩ := gd4.nw e (List.mem_of_getElem? he)
          rw [ev] at x1
          cases x1
          exact fun c o q => (upd_ne (ne_of_none q x2)).trans (sm4 _ _ q)
      · have nk := valN_none hv
        have n0 : H De = none := ((sm.trans s2).trans s3).free hDe
        have ne0 : De ≠ D0 := (ne_of_none gd3.at0 hDe).symm
        have nei : ∀ e ∈ kvs, e.2.2 ≠ .ref De := fun e he z => by
          obtain ⟨n, hn⟩ := List.getElem?_of_mem he
          obtain ⟨g, _, E⟩ := gd3.gp hn
          obtain ⟨Dj, rows, ev, hDj, _⟩ := E.dic
          rw [ev] at z
          cases z
          rw [hDe] at hDj
          cases hDj
        have pn : putN kvs (numKey (sizeT (red p))) ka (.ref De) = kvs ++ [(numKey (sizeT (red p)), ka, .ref De)] := by
          unfold putN
          rw [hv]
          rfl
        rw [pn]
        have hDe5 : (upd (upd H3 De (DO P w De [])) D0 (DO P w D0 (kvs ++ [(numKey (sizeT (red p)), ka, V.ref De)]))) De = some (DO P w De []) := (upd_ne ne0).trans hDe4
        refine ⟨.ref De, rfl, .ref b, rfl, De, b, [], prodKey (red p), rfl, rfl, hDe5, fun e he => (nomatch he), isP_nk (isr4.mono (fun c xs h => upd_do gd4.at0 c xs h)), depth_prod _, by rw [sizeLine_eq]; decide, ?_⟩
        refine ⟨_, _, _, _, _, rfl, gd_new gd4 hDe4 n0 ne0 nei hka4 isr4, ?_, ?_, fun g' hg' => ?_, fun c o q => ?_⟩
        · rw [tk]
          refine grp_new gr fun g hg z => ?_
          obtain ⟨n, hn⟩ := List.getElem?_of_mem hg
          have nl := (List.getElem?_eq_some_iff.mp hn).1
          have hl := gd4.len
          have he : kvs[n]? = some (kvs[n]'(by omega)) := List.getElem?_eq_getElem (by omega)
          exact nk _ (List.mem_of_getElem? he) (by rw [(gd4.eg n _ g he hn).key, z])
        · rw [List.length_append]
          show _ + 1 ≤ _
          omega
        · rcases List.mem_append.mp hg' with q | q
          · have := (gl g' q).1
            exact ⟨by omega, (gl g' q).2⟩
          · rw [List.mem_singleton.mp q]
            refine ⟨?_, List.cons_ne_nil _ _⟩
            show 1 ≤ i + 1
            omega
        · exact (upd_ne (ne_of_none q n0)).trans ((upd_ne (ne_of_none q hD0)).trans (sm4 _ _ q))
    · rintro σ G ⟨kvs, Gs, y2, y3, y4, rfl, gd, gr, kl, gl, sm⟩
      rw [xl, List.take_length] at gr
      obtain ⟨Zs, z1, z2, zl, zm⟩ := gd_zip gd
      have tot : (Zs.map fun z => z.2.2.length).sum ≤ ps.length := by
        have e : (Zs.map fun z => z.2.2.length) = (Gs.mergeSort leK).map fun g => g.2.length := by
          rw [z2, List.map_map]
          rfl
        rw [e, (((List.mergeSort_perm Gs leK).map fun g => g.2.length)).sum_nat]
        exact grp_total gr
      have totx : ∀ {i : Nat} {z : Ent × Gp}, Zs[i]? = some z → ((Zs.take i).map fun z => z.2.2.length).sum + z.2.2.length ≤ ps.length ∧ ((Zs.take (i + 1)).map fun z => z.2.2.length).sum = ((Zs.take i).map fun z => z.2.2.length).sum + z.2.2.length := fun {i z} hz => by
        have e : ((Zs.take (i + 1)).map fun z => z.2.2.length).sum = ((Zs.take i).map fun z => z.2.2.length).sum + z.2.2.length := by
          rw [List.take_add_one, hz, List.map_append, List.sum_append]
          simp
        refine ⟨?_, e⟩
        rw [← e, List.map_take]
        exact Nat.le_trans (take_total _ _) tot
      have glow : ∀ g ∈ Gs, ∀ r ∈ g.2, (∀ f ∈ r, Low f) ∧ r.length ≤ 10000 := fun g hg r hr => by
        obtain ⟨p, hp, rfl⟩ := (gr.mem r).mp ⟨g, hg, hr⟩
        have h1 := red_le p
        have h2 := (pok p hp).1
        exact ⟨fun f hf => (pok p hp).2 f (red_mem hf), by omega⟩
      have plow : ∀ (i : Nat), ∀ r ∈ pickM ((Zs.take i).map (·.2)), (∀ f ∈ r, Low f) ∧ r.length ≤ 10000 := fun i r hr => by
        rcases pick_sub _ _ r hr with q | ⟨g, h1, h2⟩
        · exact (nomatch q)
        · obtain ⟨z, hz, rfl⟩ := List.mem_map.mp h1
          obtain ⟨n, _, hn⟩ := zm z (List.mem_of_mem_take hz)
          exact glow _ (List.mem_of_getElem? hn) r h2
      have dk : ∀ e ∈ kvs, ∃ ns : List Int, e.1.data = .tuple (ns.map PyData.int) ∧ ns ≠ [] := fun e he => by
        obtain ⟨n, hn⟩ := List.getElem?_of_mem he
        obtain ⟨g, hg, E⟩ := gd.gp hn
        exact ⟨g.1, by rw [E.key, data_num], (gl g (List.mem_of_getElem? hg)).2⟩
      refine ⟨by rw [sizeLine_eq]; decide, fun M hM => ?_⟩
      have sM := same_upd (o := .lst []) hM
      have gdM := gd.same sM
      refine ⟨.ref D0, rfl, D0, kvs, rfl, rfl, .inl gdM.at0, gdM.oks, ?_, ?_, fun e he => ?_, fun L hL => ?_⟩
      · intro d hd d' hd'
        obtain ⟨e, he, rfl⟩ := List.mem_map.mp hd
        obtain ⟨e', he', rfl⟩ := List.mem_map.mp hd'
        obtain ⟨ns, h1, _⟩ := dk e he
        obtain ⟨ns', h2, _⟩ := dk e' he'
        show PySem.W.alike e.1.data e'.1.data = true
        rw [h1, h2, PySem.W.alike]
        exact PySem.W.alike_ints ns ns'
      · refine .inl fun d hd => ?_
        obtain ⟨e, he, rfl⟩ := List.mem_map.mp hd
        obtain ⟨ns, h1, h2⟩ := dk e he
        match ns, h1, h2 with
        | n :: ns, h1, _ => exact ⟨_, _, h1⟩
      · obtain ⟨ns, h1, _⟩ := dk e he
        rw [h1, PyData.depth, depth_ints]
        decide
      rw [z1]
      have sL := same_upd (o := .lst (keyVs (Zs.map (·.1)))) hL
      have kzl : (keyVs (Zs.map (·.1))).length = Zs.length := by
        unfold keyVs
        rw [List.length_map, List.length_map]
      refine ⟨L, rfl, ⟨_, SqL.of upd_same⟩, for_it (walk_list (xs := keyVs (Zs.map (·.1)))) (fun i σ F => ∃ (N : Addr) (ms : List V) (y6 : Option V), σ = [some (.ref a), some (.ref D0), y2, y3, y4, some (.ref N), y6] ∧ F N = some (.lst ms) ∧ IsL K F ms (pickM ((Zs.take i).map (·.2))) ∧ ms.length ≤ ((Zs.take i).map fun z => z.2.2.length).sum ∧ Same (upd (upd G M (.lst [])) L (.lst (keyVs (Zs.map (·.1))))) F)
        ⟨M, [], _, rfl, sL _ _ upd_same, .nil, Nat.zero_le _, Same.refl _⟩ (fun _ _ _ _ ⟨_, _, _, _, _, _, _, sF⟩ => SqL.of (sF _ _ upd_same)) ?_ ?_⟩
      · rintro i x σ F0 F hi ⟨N, ms, y6, rfl, hN, iM, ml, sF⟩ ⟨rfl, hx⟩
        rw [kzl] at hi
        have gdF := (gdM.same sL).same sF
        have hz : Zs[i]? = some Zs[i] := List.getElem?_eq_getElem hi
        generalize Zs[i] = z at hz
        obtain ⟨tz1, tz2⟩ := totx hz
        obtain ⟨n, hn1, hn2⟩ := zm z (List.mem_of_getElem? hz)
        obtain ⟨ek, et, Di, rows, ev, hDi, rw1⟩ := gdF.eg n z.1 z.2 hn1 hn2
        have gm : z.2 ∈ Gs := List.mem_of_getElem? hn2
        have rl := rw1.len
        have rb := (gl z.2 gm).1
        have ex : x = .ref z.1.2.1 := by
          unfold keyVs at hx
          rw [List.getElem?_map, List.getElem?_map, hz] at hx
          exact (Option.some.inj hx).symm
        subst ex
        have n0 : Di ≠ D0 := by
          obtain ⟨Dx, x1, _, x3⟩ := gdF.nw z.1 (List.mem_of_getElem? hn1)
          rw [ev] at x1
          cases x1
          exact x3
        refine ⟨.ref N, rfl, Di, DO P w Di rows, hDi, trivial, fun od => ?_⟩
        have m1 : ∀ b xs, SqT K F b xs → SqT K (upd F Di (.frz od (DO P w Di rows))) b xs := fun b xs h => upd_do hDi b xs h
        have nd : (kvs.map (·.1)).Nodup := by
          rw [gdF.keys]
          have q := gr.kn
          have e : (Gs.map fun g => numKey g.1) = (Gs.map (·.1)).map numKey := by rw [List.map_map]; rfl
          rw [e]
          exact List.Pairwise.map numKey (fun a b h e => h (numKey_inj e)) q
        have vk : valN kvs (numKey z.2.1) = some (.ref Di) := by
          rw [← ek, ← ev]
          exact valN_get nd hn1
        refine ⟨.ref D0, rfl, .ref z.1.2.1, rfl, D0, z.1.2.1, kvs, numKey z.2.1, .ref Di, rfl, rfl, ⟨.inl ((upd_ne n0.symm).trans gdF.at0), gdF.oks.mono m1, .tup (m1 _ _ et) (nums_nk _), depth_num _⟩, vk, Di, od, rows, rfl, upd_same, fun B hB => ?_⟩
        have sB := same_upd (o := .lst []) hB
        have hNf : (upd F Di (.frz od (DO P w Di rows))) N = some (.lst ms) := (upd_ne (ne_of hN hDi (by intro z; cases z))).trans hN
        refine lc_it ND.walk_keysN (fun j F2 => ∃ acc, F2 B = some (.lst acc) ∧ IsL K F2 acc ((z.2.2.take j).filter fun r => !((pickM ((Zs.take i).map (·.2))).any fun m => inc m r)) ∧ acc.length ≤ j ∧ Same (upd F Di (.frz od (DO P w Di rows))) F2) ⟨[], upd_same, .nil, Nat.le_refl _, sB⟩ (fun _ _ _ ⟨_, _, _, _, s2⟩ => s2 _ _ upd_same) ?_ ?_
        · rintro j y F3 F2 hj ⟨acc, hB2, iA, al, s2⟩ ⟨rfl, e, he, rfl⟩
          obtain ⟨r, hr1, _⟩ := rw1.key he
          have isr := rw1.isp j e r he hr1
          have rm : r ∈ z.2.2 := List.mem_of_getElem? hr1
          have isr2 : IsP K F2 (.ref e.2.1) r := (isr.mono m1).mono (same_tup s2)
          have tk : z.2.2.take (j + 1) = z.2.2.take j ++ [r] := by rw [List.take_add_one, hr1]; rfl
          refine ⟨rfl, .ref e.2.1, rfl, .ref N, rfl, .ref e.2.1, N, r, ms, _, rfl, isr2, SqL.of (s2 _ _ hNf), (iM.mono m1).mono (same_tup s2), (glow _ gm r rm).1, fun q hq => (plow i q hq).1, fun F4 s4 => ⟨_, rfl, ?_⟩⟩
          have hB4 := s4 _ _ hB2
          have iA4 := iA.mono (same_tup s4)
          cases c : (pickM ((Zs.take i).map (·.2))).any fun m => inc m r with
          | true =>
            refine iteF ?_
            refine ⟨acc, hB4, ?_, by omega, s2.trans s4⟩
            rw [tk, List.filter_append, List.filter_cons, c]
            simpa using iA4
          | false =>
            refine iteT ⟨.ref e.2.1, rfl, acc, hB4, by rw [sizeLine_eq]; omega, acc ++ [.ref e.2.1], upd_same, ?_, by rw [List.length_append]; show _ + 1 ≤ _; omega, fun b o q => ?_⟩
            · rw [tk, List.filter_append, List.filter_cons, c]
              have st : ∀ b xs, SqT K F4 b xs → SqT K (upd F4 B (.lst (acc ++ [.ref e.2.1]))) b xs := fun b xs h => upd_tup hB4 b xs h
              exact (iA4.mono st).app (.cons ((isr2.mono (same_tup s4)).mono st) .nil)
            · exact (upd_ne (ne_of_none q hB)).trans (s4 _ _ (s2 _ _ q))
        · rintro F2 ⟨acc, hB2, iA, al, s2⟩
          have hfz := s2 _ _ (upd_same : (upd F Di (.frz od (DO P w Di rows))) Di = _)
          refine ⟨hfz, ?_⟩
          have s3 : Same F (upd F2 Di (DO P w Di rows)) := fun b o q => by
            by_cases c : b = Di
            · rw [c] at q ⊢
              rw [hDi] at q
              rw [upd_same, q]
            · exact (upd_ne c).trans (s2 _ _ ((upd_ne c).trans q))
          have m3 : ∀ b xs, SqT K F2 b xs → SqT K (upd F2 Di (DO P w Di rows)) b xs := fun b xs h => upd_frz hfz (by intro xs z; cases z) b xs h
          have hBd : (upd F2 Di (DO P w Di rows)) B = some (.lst acc) := (upd_ne (ne_of hB2 hfz (by intro z; cases z))).trans hB2
          refine ⟨N, B, ms, acc, rfl, rfl, s3 _ _ hN, hBd, by rw [sizeLine_eq]; omega, fun R hR => ?_⟩
          have sR := same_upd (o := .lst (ms ++ acc)) hR
          refine ⟨R, _, _, rfl, upd_same, ?_, ?_, (sF.trans s3).trans sR⟩
          · have e : pickM ((Zs.take (i + 1)).map (·.2)) = pickM ((Zs.take i).map (·.2)) ++ z.2.2.filter fun r => !((pickM ((Zs.take i).map (·.2))).any fun m => inc m r) := by
              rw [List.take_add_one, hz, List.map_append]
              unfold pickM
              rw [List.foldl_append]
              rfl
            rw [e]
            rw [rl, List.take_length] at iA
            exact (iM.mono (same_tup (s3.trans sR))).app ((iA.mono m3).mono (same_tup sR))
          · rw [List.length_append, tz2]
            omega
      · rintro σ F ⟨N, ms, y6, rfl, hN, iM, ml, sF⟩
        rw [kzl, List.take_length, ← z2] at iM
        have sA := ((sm.trans sM).trans sL).trans sF
        refine ⟨.ref N, rfl, N, ms, _, rfl, SqL.of hN, iM, fun q hq => ?_, fun F2 R ys zs s2 hR hR2 iZ ez => ?_⟩
        · rw [z2] at hq
          have q2 := plow Zs.length q (by rw [List.take_length]; exact hq)
          exact ⟨fun f hf => (q2.1 f hf).2, q2.2⟩
        · exact k F2 R ys zs (sA.trans s2) (sA.free hR) hR2 iZ ⟨Gs, gr, ez⟩
end
end DW
/-! is_ascending, is_alphabet, is_word -/
namespace DW
open PySem PySem.Spec PyProof.Rows L2 TL
set_option autoImplicit false
def ascB (l : List Nat) : Bool := (l.zip (l.drop 1)).all fun p => decide (p.1 < p.2)
def lowB (c : Nat) : Bool := decide (97 ≤ c) && decide (c ≤ 122)
def alphB (l : List Nat) : Bool := decide (1 ≤ l.length) && decide (l.length ≤ 3) && (l.all lowB && ascB l)
theorem lt1 (c d : Nat) : decide ([c] < [d]) = decide (c < d) := by
  rw [decide_eq_decide]
  constructor
  · intro h
    rcases List.cons_lt_cons_iff.mp h with q | q
    · exact q
    · exact absurd q.2 (List.not_lt_nil _)
  · intro h
    exact List.cons_lt_cons_iff.mpr (.inl h)
theorem low_eq (c : Nat) : (if (!decide (([c] : List Nat) < [97])) = true then !decide (([122] : List Nat) < [c]) else false) = lowB c := by
  rw [lt1, lt1]
  unfold lowB
  by_cases h : c < 97
  · rw [decide_eq_true h]
    simp
    omega
  · rw [decide_eq_false h]
    simp
    by_cases g : 122 < c
    · rw [decide_eq_true g, decide_eq_true (by omega : 97 ≤ c), decide_eq_false (by omega : ¬ c ≤ 122)]
      rfl
    · rw [decide_eq_false g, decide_eq_true (by omega : 97 ≤ c), decide_eq_true (by omega : c ≤ 122)]
      rfl
/-- not a text -/
def NoS (K : PySem.W.Frag) (H : Hp) (v : V) : Prop := ∃ t, TyX K H v t ∧ PySem.W.kitOne K t (.type "str") = some false
theorem isi_kit {K : PySem.W.Frag} : PySem.W.kitOne K (.type "str") (.type "str") = some true := kit_ty (by decide +kernel)
def spAsc : Sp := fun vs H Q _ => ∃ (x : Str), vs = [.str x] ∧ (tl x).length ≤ 100000 ∧ ∀ H', Same H H' → Q (.bl (ascB (tl x))) H'
def spAlp (K : PySem.W.Frag) : Sp := fun vs H Q _ => ∃ v : V, vs = [v] ∧ ((∃ x : Str, v = .str x ∧ (tl x).length ≤ 100000 ∧ ∀ H', Same H H' → Q (.bl (alphB (tl x))) H') ∨ (NoS K H v ∧ ∀ H', Same H H' → Q (.bl false) H'))
def spIw (K : PySem.W.Frag) : Sp := fun vs H Q _ => ∃ (z : Str) (v : V), vs = [.str z, v] ∧ ((∃ x : Str, v = .str x ∧ (tl x).length ≤ 100000 ∧ ∀ H', Same H H' → Q (.bl ((tl x).all fun c => decide (c ∈ tl z))) H') ∨ (NoS K H v ∧ ∀ H', Same H H' → Q (.bl false) H'))
theorem cut1 (x : Str) : tl (cutS x (some 1) none) = (tl x).drop 1 := by
  show (x.cps.toList.drop (HT.sIx x.length 0 (some 1))).take (HT.sIx x.length x.length none - HT.sIx x.length 0 (some 1)) = x.cps.toList.drop 1
  rw [show HT.sIx x.length 0 (some 1) = min 1 x.length from HT.sIx_nat x.length 0 1, HT.sIx_none]
  have e : x.length = x.cps.toList.length := (Array.length_toList).symm
  by_cases h : 1 ≤ x.length
  · rw [show min 1 x.length = 1 by omega]
    exact List.take_of_length_le (by rw [List.length_drop]; omega)
  · have h0 : x.cps.toList = [] := List.length_eq_zero_iff.mp (by omega)
    rw [h0]
    simp
section
variable {P : Program} {w : World} {K : PySem.W.Frag} {mg : Str → Option Value} {base : Heap}
theorem scAsc : FnScope ["letters", "one", "other"] ["letters"] (defScope sIsAscending) := ⟨rfl, rfl, rfl, by decide +kernel, rfl, by decide +kernel, by decide +kernel⟩
theorem ok_asc (D : Df K mg "is_ascending" sIsAscending ["letters"]) (ma : mg "all" = none) (mz : mg "zip" = none) : FnOk P w K mg base CX0 1 D.f D.fd ["letters"] spAsc := by
  refine D.F.ok scAsc (fun vs H Q E h => ?_) (fun cdv A outer s H vs Q E hr h => ?_)
  · obtain ⟨x, rfl, _⟩ := h
    rfl
  · obtain ⟨x, rfl, xl, k⟩ := h
    have sz : ∀ y : Str, y.length = (tl y).length := fun y => (Array.length_toList).symm
    refine ⟨_, (pss_one (ps_ret (pe_callB (cr_all rfl) (by rfl) ma (by decide +kernel) (pa_cons (pe_lc (own := [("one", 1), ("other", 2)]) (g := gTup K 2 (gCons (gName 1) (gCons (gName 2) gNil))) rfl scAsc.nd (ZX.pi_zipX (by rfl) mz (pa_cons (pv 0) (pa_cons (pe_slice sl_str (pv 0) (po_some pe_int) po_none) pa_nil))) (blkOk_by (N := ["letters", "one", "other"]) (sc := defScope sIsAscending) (by decide +kernel)) (fun _ _ _ _ _ => pg_tup rfl (pgs_cons (pg_name (i := 1) scAsc.nd rfl (.inl rfl)) (pgs_cons (pg_name (i := 2) scAsc.nd rfl (.inl rfl)) pgs_nil))) (fun _ _ _ _ _ => pts_nil) (fun _ _ _ _ _ => (pe_cmpR op_lt_str (pv 1) (pv 2) (nomark _)))) pa_nil)))), ?_⟩
    refine ⟨.str x, rfl, .str x, rfl, 1, rfl, ?_⟩
    unfold tNoPart
    refine ⟨x, rfl, by rw [sz, sizeLine_eq]; omega, x, _, rfl, fun L hL => ?_⟩
    have e1 := cut1 x
    generalize hy : cutS x (some 1) none = y at e1 ⊢
    have xs : x.cps.size = (tl x).length := (Array.length_toList).symm
    have ys : y.cps.size = (tl y).length := (Array.length_toList).symm
    have sL := same_upd (o := .lst []) hL
    refine lc_it ZX.walk_zipX (fun i H' => ∃ bs : List Bool, H' L = some (.lst (bs.map V.bl)) ∧ bs = (((tl x).zip (tl y)).take i).map (fun p => decide (p.1 < p.2)) ∧ Same H H') ⟨[], upd_same, rfl, sL⟩ (fun _ _ _ _ => trivial) ?_ ?_
    · rintro i v G G' hi ⟨bs, gL, be, sm⟩ ⟨T, c, d, rfl, hT, rfl, hc, hd⟩
      have sT := same_upd (o := .tup [.str ⟨#[c]⟩, .str ⟨#[d]⟩]) hT
      have hc' : (tl x)[i]? = some c := by rw [Array.getElem?_toList]; exact hc
      have hd' : (tl y)[i]? = some d := by rw [Array.getElem?_toList]; exact hd
      have hz : ((tl x).zip (tl y))[i]? = some (c, d) := List.getElem?_zip_eq_some.mpr ⟨hc', hd'⟩
      refine ⟨T, _, rfl, SqT.of upd_same, rfl, _, _, rfl, _, _, rfl, rfl, rfl, yes ?_⟩
      refine ⟨_, rfl, _, rfl, _, _, rfl, rfl, _, sT _ _ gL, ?_, bs ++ [decide (c < d)], ?_, ?_, fun b o e => (upd_ne (ne_of_none e hL)).trans ((sm.trans sT) _ _ e)⟩
      · rw [List.length_map, be, List.length_map, List.length_take, sizeLine_eq]
        omega
      · rw [upd_same, List.map_append]
        show some (HO.lst (_ ++ [V.bl (decide ([c] < [d]))])) = _
        rw [lt1]
        rfl
      · rw [be, List.take_add_one, hz, List.map_append]
        rfl
    · rintro G ⟨bs, gL, be, sm⟩
      refine ⟨L, bs, rfl, SqL.of gL, ?_⟩
      have e2 : bs.all id = ascB (tl x) := by
        rw [be, xs, ys, List.take_of_length_le (by rw [List.length_zip]; omega), List.all_map, e1]
        rfl
      rw [e2]
      exact k _ sm
theorem scAlp : FnScope ["thing", "letter"] ["thing"] (defScope sIsAlphabet) := ⟨rfl, rfl, rfl, by decide +kernel, rfl, by decide +kernel, by decide +kernel⟩
theorem ok_alp (D : Df K mg "is_alphabet" sIsAlphabet ["thing"]) (Da0 : Df K mg "is_ascending" sIsAscending ["letters"]) (ma : mg "all" = none) (mz : mg "zip" = none) (mi : mg "isinstance" = none) (ms : mg "str" = none) (ml : mg "len" = none) (mm0 : ∃ t, mg "MOST_LETTERS" = some (.int 3 t)) : FnOk P w K mg base CX0 2 D.f D.fd ["thing"] (spAlp K) := by
  have Ga : FnOk P w K mg base CX0 1 Da0.f Da0.fd ["letters"] spAsc := ok_asc Da0 ma mz
  have mm : ∃ u, mg "MOST_LETTERS" = some u ∧ RelV (.int 3) u := by
    obtain ⟨t, e⟩ := mm0
    exact ⟨_, e, t, rfl⟩
  refine D.F.ok scAlp (fun vs H Q E h => ?_) (fun cdv A outer s H vs Q E hr h => ?_)
  · obtain ⟨x, rfl, _⟩ := h
    rfl
  · obtain ⟨v, rfl, h⟩ := h
    have sz : ∀ y : Str, y.length = (tl y).length := fun y => (Array.length_toList).symm
    refine ⟨_, (pss_cons (ps_if (pw_or (pt_not (pt_val (pe_callB call_isi (by rfl) mi (by decide +kernel) (pa_cons (pv 0) (pa_cons (pe_bltn (v := V.ty "str") (by rfl) ms (by decide +kernel : bootBuiltins "str" = some (.type "str")) rfl) pa_nil))))) (pw_or1 (pt_not (pt_chain op_le op_le pe_int (pe_callB call_len_str (by rfl) ml PySem.boot_len (pa_cons (pv 0) pa_nil)) (C8.pe_gc (by rfl) mm))))).pt (pss_one (ps_ret pe_bl)) pss_nil) (pss_one (ps_ret (pe_and (pe_callB (cr_all rfl) (by rfl) ma (by decide +kernel) (pa_cons (pe_lc (own := [("letter", 1)]) (g := gName 1) rfl scAlp.nd (pi_str (pv 0)) (blkOk_by (N := ["thing", "letter"]) (sc := defScope sIsAlphabet) (by decide +kernel)) (fun _ _ _ _ _ => pg_name (i := 1) scAlp.nd rfl (Or.inl rfl)) (fun _ _ _ _ _ => pts_nil) (fun _ _ _ _ _ => (pe_chain op_le_str op_le_str pe_str (pv 1) pe_str))) pa_nil)) (pe_one (pe_call Ga hr (by rfl) Da0.g Da0.F.kp Da0.b .nil pass0 (pa_cons (pv 0) pa_nil))))))), ?_⟩
    rcases h with ⟨x, rfl, xl, k⟩ | ⟨⟨t, ty, kt⟩, k⟩
    · have xs : x.cps.size = (tl x).length := (Array.length_toList).symm
      refine ⟨.str x, rfl, _, _, _, _, true, rfl, .ty "str", .base (.str x), isi_kit, true, rfl, ?_⟩
      refine iteF ?_
      refine ⟨.str x, rfl, x, rfl, by rw [sz, sizeLine_eq]; omega, 1, _, rfl, rfl, _, rfl, ?_⟩
      refine ite2 (fun e1 => ?_) (fun e1 => ?_)
      · have e1' : 1 ≤ (tl x).length := by
          have := of_decide_eq_true e1
          rw [sz] at this
          omega
        refine ⟨_, 3, rfl, rfl, _, rfl, ?_⟩
        refine ite2 (fun e2 => ?_) (fun e2 => ?_)
        · have e2' : ¬ (tl x).length ≤ 3 := by
            rw [sz] at e2
            simp at e2
            omega
          have q := k _ (Same.refl H)
          rw [show alphB (tl x) = false by unfold alphB; rw [decide_eq_false e2']; simp] at q
          exact q
        · have e2' : (tl x).length ≤ 3 := by
            rw [sz] at e2
            simp at e2
            omega
          have ea : alphB (tl x) = ((tl x).all lowB && ascB (tl x)) := by
            unfold alphB
            rw [decide_eq_true e1', decide_eq_true e2']
            rfl
          rw [ea] at k
          refine ⟨.str x, rfl, x, rfl, fun L hL => ?_⟩
          have sL := same_upd (o := .lst []) hL
          refine lc_it walk_str (fun i H' => ∃ bs : List Bool, H' L = some (.lst (bs.map V.bl)) ∧ bs = ((tl x).take i).map lowB ∧ Same H H') ⟨[], upd_same, rfl, sL⟩ (fun _ _ _ _ => trivial) ?_ ?_
          · rintro i v G G' hi ⟨bs, gL, be, sm⟩ ⟨rfl, c, hc, rfl⟩
            have hc' : (tl x)[i]? = some c := by rw [Array.getElem?_toList]; exact hc
            refine ⟨rfl, yes ?_⟩
            have fin : ∀ G2 : Hp, G2 = G' → ∃ acc, G2 L = some (.lst acc) ∧ acc.length < sizeLine ∧ ∃ bs : List Bool, (upd G2 L (.lst (acc ++ [V.bl (lowB c)]))) L = some (.lst (bs.map V.bl)) ∧ bs = ((tl x).take (i + 1)).map lowB ∧ Same H (upd G2 L (.lst (acc ++ [V.bl (lowB c)]))) := by
              rintro G2 rfl
              refine ⟨_, gL, ?_, bs ++ [lowB c], ?_, ?_, fun b o e => (upd_ne (ne_of_none e hL)).trans (sm _ _ e)⟩
              · rw [List.length_map, be, List.length_map, List.length_take, sizeLine_eq]
                omega
              · rw [upd_same, List.map_append]
                rfl
              · rw [be, List.take_add_one, hc', List.map_append]
                rfl
            have le := low_eq c
            refine ⟨_, rfl, _, _, rfl, rfl, _, rfl, ?_⟩
            refine ite2 (fun e3 => ?_) (fun e3 => ?_)
            · rw [show (!decide (([c] : List Nat) < [97])) = true from e3, if_pos rfl] at le
              refine ⟨_, _, rfl, rfl, ?_⟩
              have q := fin _ rfl
              rw [← le] at q
              exact q
            · rw [if_neg (show ¬ (!decide (([c] : List Nat) < [97])) = true from e3)] at le
              have q := fin _ rfl
              rw [← le] at q
              exact q
          · rintro G ⟨bs, gL, be, sm⟩
            refine ⟨L, bs, rfl, SqL.of gL, _, rfl, ?_⟩
            have e2 : bs.all id = (tl x).all lowB := by
              rw [be, xs, List.take_length, List.all_map]
              rfl
            rw [e2]
            refine ite2 (fun e3 => ?_) (fun e3 => ?_)
            · refine ⟨.str x, rfl, x, rfl, xl, fun H' s' => ?_⟩
              have q := k _ (sm.trans s')
              rw [e3] at q
              exact q
            · have q := k _ sm
              have e3' : (tl x).all lowB = false := by simpa using e3
              rw [e3'] at q
              exact q
      · have e1' : ¬ 1 ≤ (tl x).length := by
          intro h
          exact e1 (decide_eq_true (by rw [sz]; omega))
        have q := k _ (Same.refl H)
        rw [show alphB (tl x) = false by unfold alphB; rw [decide_eq_false e1']; rfl] at q
        exact ⟨_, rfl, q⟩
    · refine ⟨v, rfl, _, _, _, _, false, rfl, .ty "str", ty, kt, false, rfl, ?_⟩
      exact k _ (Same.refl H)
theorem scIw : FnScope ["alphabet", "thing", "letter"] ["alphabet", "thing"] (defScope sIsWord) := ⟨rfl, rfl, rfl, by decide +kernel, rfl, by decide +kernel, by decide +kernel⟩
theorem ok_iw (D : Df K mg "is_word" sIsWord ["alphabet", "thing"]) (ma : mg "all" = none) (mi : mg "isinstance" = none) (ms : mg "str" = none) : FnOk P w K mg base CX0 1 D.f D.fd ["alphabet", "thing"] (spIw K) := by
  refine D.F.ok scIw (fun vs H Q E h => ?_) (fun cdv A outer s H vs Q E hr h => ?_)
  · obtain ⟨z, x, rfl, _⟩ := h
    rfl
  · obtain ⟨z, v, rfl, h⟩ := h
    refine ⟨_, (pss_one (ps_ret (pe_and (pe_callB call_isi (by rfl) mi (by decide +kernel) (pa_cons (pv 1) (pa_cons (pe_bltn (v := V.ty "str") (by rfl) ms (by decide +kernel : bootBuiltins "str" = some (.type "str")) rfl) pa_nil))) (pe_one (pe_callB (cr_all rfl) (by rfl) ma (by decide +kernel) (pa_cons (pe_lc (own := [("letter", 2)]) (g := gName 2) rfl scIw.nd (pi_str (pv 1)) (blkOk_by (N := ["alphabet", "thing", "letter"]) (sc := defScope sIsWord) (by decide +kernel)) (fun _ _ _ _ _ => pg_name (i := 2) scIw.nd rfl (Or.inl rfl)) (fun _ _ _ _ _ => pts_nil) (fun _ _ _ _ _ => (pe_cmpR op_in_sign (pv 2) (pv 0) rfl))) pa_nil)))))), ?_⟩
    rcases h with ⟨x, rfl, xl, k⟩ | ⟨⟨t, ty, kt⟩, k⟩
    · have xs : x.cps.size = (tl x).length := (Array.length_toList).symm
      refine ⟨.str x, rfl, _, _, _, _, true, rfl, .ty "str", .base (.str x), isi_kit, true, rfl, ?_⟩
      refine iteT ?_
      refine ⟨.str x, rfl, x, rfl, fun L hL => ?_⟩
      have sL := same_upd (o := .lst []) hL
      refine lc_it walk_str (fun i H' => ∃ bs : List Bool, H' L = some (.lst (bs.map V.bl)) ∧ bs = ((tl x).take i).map (fun c => decide (c ∈ tl z)) ∧ Same H H') ⟨[], upd_same, rfl, sL⟩ (fun _ _ _ _ => trivial) ?_ ?_
      · rintro i v G G' hi ⟨bs, gL, be, sm⟩ ⟨rfl, c, hc, rfl⟩
        have hc' : (tl x)[i]? = some c := by rw [Array.getElem?_toList]; exact hc
        refine ⟨rfl, yes ?_⟩
        refine ⟨_, rfl, .str z, rfl, c, z, rfl, rfl, _, gL, ?_, bs ++ [decide (c ∈ tl z)], ?_, ?_, fun b o e => (upd_ne (ne_of_none e hL)).trans (sm _ _ e)⟩
        · rw [List.length_map, be, List.length_map, List.length_take, sizeLine_eq]
          omega
        · rw [upd_same, List.map_append]
          rfl
        · rw [be, List.take_add_one, hc', List.map_append]
          rfl
      · rintro G ⟨bs, gL, be, sm⟩
        refine ⟨L, bs, rfl, SqL.of gL, ?_⟩
        have e2 : bs.all id = (tl x).all fun c => decide (c ∈ tl z) := by
          rw [be, xs, List.take_length, List.all_map]
          rfl
        rw [e2]
        exact k _ sm
    · refine ⟨v, rfl, _, _, _, _, false, rfl, .ty "str", ty, kt, false, rfl, ?_⟩
      exact k _ (Same.refl H)
end
end DW
/-! is_factor and is_product of any object -/
namespace DW
open PySem PySem.Spec PyProof.Rows L2 TL
set_option autoImplicit false
theorem sqT_ty {K : PySem.W.Frag} {H : Hp} {a : Addr} {xs : List V} (h : SqT K H a xs) : TyX K H (.ref a) (.type "tuple") := by
  rcases h with (h | ⟨o, h⟩) | ⟨o, its, n, h, c, _⟩
  · exact .base (.tup h)
  · exact .fTuple h
  · exact .kTuple h c
theorem tup_kit {K : PySem.W.Frag} : PySem.W.kitOne K (.type "tuple") (.type "tuple") = some true := kit_ty (by decide +kernel)
theorem kdo (b : Bool) : decide (V.str (kd b) = V.str "opt") = !b := by
  cases b
  · exact decide_eq_true rfl
  · exact decide_eq_false (by unfold kd; decide +kernel)
theorem kds (b : Bool) : decide (V.str (kd b) = V.str "star") = b := by
  cases b
  · exact decide_eq_false (by unfold kd; decide +kernel)
  · exact decide_eq_true rfl
/-- not a tuple -/
def NoT (K : PySem.W.Frag) (H : Hp) (v : V) : Prop := ∃ t, TyX K H v t ∧ PySem.W.kitOne K t (.type "tuple") = some false
/-- is it a factor: its kind, its letters -/
def facB (z : Str) (k : V) (x : Str) : Bool := (tl x).all (fun c => decide (c ∈ tl z)) && (if decide (k = .str "opt") = true then decide ((tl x).length = 1) else (decide (k = .str "star") && (decide (0 < (tl x).length) && ascB (tl x))))
inductive ObB (K : PySem.W.Frag) (H : Hp) (z : Str) : V → Bool → Prop where
  | no {v : V} (h : NoT K H v) : ObB K H z v false
  | len {a : Addr} {xs : List V} (h : SqT K H a xs) (n : xs.length ≠ 2) : ObB K H z (.ref a) false
  | nos {a : Addr} {k l : V} (h : SqT K H a [k, l]) (n : NoS K H l) : ObB K H z (.ref a) false
  | fac {a : Addr} {k : V} {x : Str} (h : SqT K H a [k, .str x]) (s : ∀ y, scal k (.str y) = true) (xl : (tl x).length ≤ 100000) : ObB K H z (.ref a) (facB z k x)
inductive ObBs (K : PySem.W.Frag) (H : Hp) (z : Str) : List V → List Bool → Prop where
  | nil : ObBs K H z [] []
  | cons {v : V} {b : Bool} {vs : List V} {bs : List Bool} (h : ObB K H z v b) (r : ObBs K H z vs bs) : ObBs K H z (v :: vs) (b :: bs)
theorem ObBs.len {K : PySem.W.Frag} {H : Hp} {z : Str} : ∀ {vs : List V} {bs : List Bool}, ObBs K H z vs bs → vs.length = bs.length
  | _, _, .nil => rfl
  | _, _, .cons _ r => by rw [List.length_cons, List.length_cons, r.len]
theorem ObBs.get {K : PySem.W.Frag} {H : Hp} {z : Str} : ∀ {vs : List V} {bs : List Bool}, ObBs K H z vs bs → ∀ (i : Nat) (v : V), vs[i]? = some v → ∃ b, bs[i]? = some b ∧ ObB K H z v b
  | _, _, .nil, i, v, h => by simp at h
  | _, _, .cons a r, 0, v, h => by
    have e := Option.some.inj h
    subst e
    exact ⟨_, rfl, a⟩
  | _, _, .cons a r, i + 1, v, h => r.get i v h
theorem tyX_same {K : PySem.W.Frag} {H H' : Hp} {v : V} {t : Value} (s : Same H H') (h : TyX K H v t) : TyX K H' v t := by
  cases h with
  | base b =>
    refine .base ?_
    cases b with
    | non => exact .non
    | bl y => exact .bl y
    | int i => exact .int i
    | str y => exact .str y
    | flt y => exact .flt y
    | lst e => exact .lst (s _ _ e)
    | frz e => exact .frz (s _ _ e)
    | tup e => exact .tup (s _ _ e)
    | dK e => exact .dK (s _ _ e)
    | dT e => exact .dT (s _ _ e)
    | ins e a b c d f => exact .ins (s _ _ e) a b c d f
  | byt b => exact .byt b
  | set e => exact .set (s _ _ e)
  | kList e c => exact .kList e c
  | kTuple e c => exact .kTuple e c
  | kDict e c => exact .kDict e c
  | fTuple e => exact .fTuple (s _ _ e)
  | fDict e => exact .fDict (s _ _ e)
theorem ObB.same {K : PySem.W.Frag} {H H' : Hp} {z : Str} {v : V} {b : Bool} (s : Same H H') (h : ObB K H z v b) : ObB K H' z v b := by
  cases h with
  | no h =>
    obtain ⟨t, ty, kt⟩ := h
    exact .no ⟨t, tyX_same s ty, kt⟩
  | len h n => exact .len (same_tup s _ _ h) n
  | nos h n =>
    obtain ⟨t, ty, kt⟩ := n
    exact .nos (same_tup s _ _ h) ⟨t, tyX_same s ty, kt⟩
  | fac h sc xl => exact .fac (same_tup s _ _ h) sc xl
/-- what is told of an object that may be a product -/
inductive PrB (K : PySem.W.Frag) (H : Hp) (z : Str) : V → Bool → Prop where
  | no {v : V} (h : NoT K H v) : PrB K H z v false
  | tup {a : Addr} {xs : List V} {bs : List Bool} (h : SqT K H a xs) (o : ObBs K H z xs bs) (l : bs.length ≤ 100000) : PrB K H z (.ref a) (bs.all id)
def spIf (K : PySem.W.Frag) : Sp := fun vs H Q _ => ∃ (z : Str) (v : V) (b : Bool), vs = [.str z, v] ∧ ObB K H z v b ∧ ∀ H', Same H H' → Q (.bl b) H'
def spIp (K : PySem.W.Frag) : Sp := fun vs H Q _ => ∃ (z : Str) (v : V) (b : Bool), vs = [.str z, v] ∧ PrB K H z v b ∧ ∀ H', Same H H' → Q (.bl b) H'
theorem ascB_of {l : List Nat} (h : l.Pairwise (· < ·)) : ascB l = true := by
  induction l with
  | nil => rfl
  | cons a l ih =>
    cases l with
    | nil => rfl
    | cons b r =>
      obtain ⟨h1, h2⟩ := List.pairwise_cons.mp h
      show (decide (a < b) && ascB (b :: r)) = true
      rw [ih h2, decide_eq_true (h1 b List.mem_cons_self)]
      rfl
/-- a factor that was drawn is one -/
theorem IsF.ob {K : PySem.W.Frag} {H : Hp} {z : Str} {v : V} {f : Fc} (h : IsF K H v f) (fo : FOk z f) (al : Alph z) : ObB K H z v true := by
  obtain ⟨a, rfl, hq⟩ := h
  have fl : (tl f.2).length ≤ 3 := Nat.le_trans fo.2.1.length_le al.2.2.1
  have e : facB z (.str (kd f.1)) f.2 = true := by
    unfold facB
    rw [Bool.and_eq_true]
    refine ⟨List.all_eq_true.mpr fun c hc => decide_eq_true (fo.2.1.subset hc), ?_⟩
    rw [kdo, kds]
    cases q : f.1 with
    | false => exact decide_eq_true (fo.2.2 q)
    | true =>
      rw [ascB_of (al.1.sublist fo.2.1), decide_eq_true (List.length_pos_iff.mpr fo.1)]
      rfl
  have o := ObB.fac (z := z) hq (fun _ => rfl) (Nat.le_trans fl (by decide))
  rw [e] at o
  exact o
theorem IsFs.obs {K : PySem.W.Frag} {H : Hp} {z : Str} (al : Alph z) : ∀ {vs : List V} {fs : List Fc}, IsFs K H vs fs → (∀ f ∈ fs, FOk z f) → ∃ bs, ObBs K H z vs bs ∧ bs.all id = true ∧ bs.length = fs.length
  | _, _, .nil, _ => ⟨[], .nil, rfl, rfl⟩
  | _, _, .cons a r, h => by
    obtain ⟨bs, o, e, l⟩ := r.obs al fun f hf => h f (List.mem_cons_of_mem _ hf)
    refine ⟨true :: bs, .cons (a.ob (h _ List.mem_cons_self) al) o, ?_, by rw [List.length_cons, List.length_cons, l]⟩
    rw [List.all_cons, e]
    rfl
theorem IsP.pr {K : PySem.W.Frag} {H : Hp} {z : Str} {v : V} {fs : List Fc} (al : Alph z) (h : IsP K H v fs) (fo : ∀ f ∈ fs, FOk z f) (l : fs.length ≤ 100000) : PrB K H z v true := by
  obtain ⟨a, xs, rfl, hq, iF⟩ := h
  obtain ⟨bs, o, e, bl⟩ := iF.obs al fo
  rw [← e]
  exact .tup hq o (by rw [bl]; exact l)
section
variable {P : Program} {w : World} {K : PySem.W.Frag} {mg : Str → Option Value} {base : Heap}
structure DfPr (K : PySem.W.Frag) (mg : Str → Option Value) where
  p : Df K mg "is_product" sIsProduct ["alphabet", "thing"]
  f : Df K mg "is_factor" sIsFactor ["alphabet", "thing"]
  w : Df K mg "is_word" sIsWord ["alphabet", "thing"]
  a : Df K mg "is_ascending" sIsAscending ["letters"]
  ma : mg "all" = none
  mz : mg "zip" = none
  mi : mg "isinstance" = none
  ms : mg "str" = none
  mt : mg "tuple" = none
  ml : mg "len" = none
theorem scIf : FnScope ["alphabet", "thing", "kind", "letters"] ["alphabet", "thing"] (defScope sIsFactor) := ⟨rfl, rfl, rfl, by decide +kernel, rfl, by decide +kernel, by decide +kernel⟩
theorem ok_if (D : DfPr K mg) : FnOk P w K mg base CX0 2 D.f.f D.f.fd ["alphabet", "thing"] (spIf K) := by
  have Gw : FnOk P w K mg base CX0 1 D.w.f D.w.fd ["alphabet", "thing"] (spIw K) := ok_iw D.w D.ma D.mi D.ms
  have Ga : FnOk P w K mg base CX0 1 D.a.f D.a.fd ["letters"] spAsc := ok_asc D.a D.ma D.mz
  refine D.f.F.ok scIf (fun vs H Q E h => ?_) (fun cdv A outer s H vs Q E hr h => ?_)
  · obtain ⟨z, v, f, rfl, _⟩ := h
    rfl
  · obtain ⟨z, v, b, rfl, ob, k⟩ := h
    have sz : ∀ y : Str, y.length = (tl y).length := fun y => (Array.length_toList).symm
    have mt := D.mt
    have mi := D.mi
    have ml := D.ml
    refine ⟨_, (pss_cons (ps_if (pw_or (pt_not (pt_val (pe_callB call_isi (by rfl) mi (by decide +kernel) (pa_cons (pv 1) (pa_cons (pe_bltn (v := V.ty "tuple") (by rfl) mt (by decide +kernel : bootBuiltins "tuple" = some (.type "tuple")) rfl) pa_nil))))) (pw_or1 (pt_cmpR op_ne (pe_callB call_len_seq (by rfl) ml PySem.boot_len (pa_cons (pv 1) pa_nil)) pe_int (nomark _)))).pt (pss_one (ps_ret pe_bl)) pss_nil) (pss_cons (ps_asg (pv 1) (pg_tup rfl (pgs_cons (pg_name (i := 2) scIf.nd rfl (.inl rfl)) (pgs_cons (pg_name (i := 3) scIf.nd rfl (.inl rfl)) pgs_nil)))) (pss_cons (ps_if (pt_not (pt_val (pe_call Gw hr (by rfl) D.w.g D.w.F.kp D.w.b .nil pass0 (pa_cons (pv 0) (pa_cons (pv 3) pa_nil))))) (pss_one (ps_ret pe_bl)) pss_nil) (pss_cons (ps_if (pt_cmpR op_eq (pv 2) pe_str (nomark _)) (pss_one (ps_ret (pe_cmpR op_eq (pe_callB call_len_str (by rfl) ml PySem.boot_len (pa_cons (pv 3) pa_nil)) pe_int (nomark _)))) pss_nil) (pss_one (ps_ret (pe_and (pe_cmpR op_eq (pv 2) pe_str (nomark _)) (pe_and (pe_cmpR op_gt (pe_callB call_len_str (by rfl) ml PySem.boot_len (pa_cons (pv 3) pa_nil)) pe_int (nomark _)) (pe_one (pe_call Ga hr (by rfl) D.a.g D.a.F.kp D.a.b .nil pass0 (pa_cons (pv 3) pa_nil))))))))))), ?_⟩
    cases ob with
    | no h =>
      obtain ⟨t, ty, kt⟩ := h
      exact ⟨v, rfl, _, _, _, _, false, rfl, .ty "tuple", ty, kt, false, rfl, iteT (k _ (Same.refl _))⟩
    | @len a xs h n =>
      refine ⟨.ref a, rfl, _, _, _, _, true, rfl, .ty "tuple", sqT_ty h, tup_kit, true, rfl, iteF ?_⟩
      refine ⟨.ref a, rfl, a, _, rfl, .inr h, rfl, _, rfl, ?_⟩
      rw [show (!decide (V.int (xs.length : Int) = V.int 2)) = true by
        rw [decide_eq_false fun e => by
          have := V.int.inj e
          omega]
        rfl]
      exact iteT (k _ (Same.refl _))
    | @nos a kk l h n =>
      refine ⟨.ref a, rfl, _, _, _, _, true, rfl, .ty "tuple", sqT_ty h, tup_kit, true, rfl, iteF ?_⟩
      refine ⟨.ref a, rfl, a, _, rfl, .inr h, rfl, _, rfl, iteF ?_⟩
      refine ⟨.ref a, rfl, a, _, rfl, h, rfl, _, _, rfl, _, _, rfl, rfl, ?_⟩
      refine ⟨.str z, rfl, l, rfl, z, l, rfl, .inr ⟨n, fun H1 s1 => ?_⟩⟩
      exact ⟨_, rfl, iteT (k _ s1)⟩
    | @fac a kk x h sc xl =>
      refine ⟨.ref a, rfl, _, _, _, _, true, rfl, .ty "tuple", sqT_ty h, tup_kit, true, rfl, iteF ?_⟩
      refine ⟨.ref a, rfl, a, _, rfl, .inr h, rfl, _, rfl, iteF ?_⟩
      refine ⟨.ref a, rfl, a, _, rfl, h, rfl, _, _, rfl, _, _, rfl, rfl, ?_⟩
      refine ⟨.str z, rfl, .str x, rfl, z, .str x, rfl, .inl ⟨x, rfl, xl, fun H1 s1 => ?_⟩⟩
      unfold facB at k
      cases q1 : (tl x).all (fun c => decide (c ∈ tl z)) with
      | false =>
        rw [q1] at k
        exact ⟨_, rfl, iteT (k _ s1)⟩
      | true =>
        rw [q1, Bool.true_and] at k
        refine ⟨_, rfl, iteF ?_⟩
        refine ⟨_, rfl, sc _, _, rfl, ?_⟩
        have xsz : x.length ≤ sizeLine := by
          rw [sz, sizeLine_eq]
          omega
        by_cases q2 : decide (kk = V.str "opt") = true
        · rw [if_pos q2] at k
          rw [q2]
          refine iteT ?_
          refine ⟨.str x, rfl, x, rfl, xsz, rfl, ?_⟩
          have e : decide (V.int (x.length : Int) = V.int 1) = decide ((tl x).length = 1) := by
            rw [decide_eq_decide, sz]
            constructor
            · intro e
              have := V.int.inj e
              omega
            · intro e
              rw [e]
              rfl
          rw [e]
          exact k _ s1
        · rw [if_neg q2] at k
          rw [show decide (kk = V.str "opt") = false by simpa using q2]
          refine iteF ?_
          refine ⟨_, rfl, sc _, _, rfl, ?_⟩
          by_cases q3 : decide (kk = V.str "star") = true
          · rw [q3, Bool.true_and] at k
            rw [q3]
            refine iteT ?_
            refine ⟨.str x, rfl, x, rfl, xsz, _, _, rfl, rfl, _, rfl, ?_⟩
            have e : decide ((x.length : Int) > 0) = decide (0 < (tl x).length) := by
              rw [decide_eq_decide, sz]
              omega
            rw [e]
            by_cases q4 : decide (0 < (tl x).length) = true
            · rw [q4, Bool.true_and] at k
              rw [q4]
              refine iteT ?_
              exact ⟨.str x, rfl, x, rfl, xl, fun H2 s2 => k _ (s1.trans s2)⟩
            · rw [show decide (0 < (tl x).length) = false by simpa using q4] at k
              rw [show decide (0 < (tl x).length) = false by simpa using q4]
              exact iteF (k _ s1)
          · rw [show decide (kk = V.str "star") = false by simpa using q3] at k
            rw [show decide (kk = V.str "star") = false by simpa using q3]
            exact iteF (k _ s1)
theorem scIp : FnScope ["alphabet", "thing", "factor"] ["alphabet", "thing"] (defScope sIsProduct) := ⟨rfl, rfl, rfl, by decide +kernel, rfl, by decide +kernel, by decide +kernel⟩
theorem ok_ip (D : DfPr K mg) : FnOk P w K mg base CX0 3 D.p.f D.p.fd ["alphabet", "thing"] (spIp K) := by
  have Gf : FnOk P w K mg base CX0 2 D.f.f D.f.fd ["alphabet", "thing"] (spIf K) := ok_if D
  refine D.p.F.ok scIp (fun vs H Q E h => ?_) (fun cdv A outer s H vs Q E hr h => ?_)
  · obtain ⟨z, v, f, rfl, _⟩ := h
    rfl
  · obtain ⟨z, v, b, rfl, pr, k⟩ := h
    have mt := D.mt
    have mi := D.mi
    have ma := D.ma
    refine ⟨_, (pss_one (ps_ret (pe_and (pe_callB call_isi (by rfl) mi (by decide +kernel) (pa_cons (pv 1) (pa_cons (pe_bltn (v := V.ty "tuple") (by rfl) mt (by decide +kernel : bootBuiltins "tuple" = some (.type "tuple")) rfl) pa_nil))) (pe_one (pe_callB (cr_all rfl) (by rfl) ma (by decide +kernel) (pa_cons (pe_lc (own := [("factor", 2)]) (g := gName 2) rfl scIp.nd (pi_tup (pv 1)) (blkOk_by (N := ["alphabet", "thing", "factor"]) (sc := defScope sIsProduct) (by decide +kernel)) (fun _ _ _ _ _ => pg_name (i := 2) scIp.nd rfl (Or.inl rfl)) (fun _ _ _ _ _ => pts_nil) (fun _ _ _ _ _ => (pe_call Gf hr (by rfl) D.f.g D.f.F.kp D.f.b .nil pass0 (pa_cons (pv 0) (pa_cons (pv 2) pa_nil))))) pa_nil)))))), ?_⟩
    cases pr with
    | no h =>
      obtain ⟨t, ty, kt⟩ := h
      exact ⟨v, rfl, _, _, _, _, false, rfl, .ty "tuple", ty, kt, false, rfl, iteF (k _ (Same.refl _))⟩
    | @tup a xs bs hq o bl =>
      refine ⟨.ref a, rfl, _, _, _, _, true, rfl, .ty "tuple", sqT_ty hq, tup_kit, true, rfl, iteT ?_⟩
      refine ⟨.ref a, rfl, a, rfl, ⟨_, hq⟩, fun L hL => ?_⟩
      have sL := same_upd (o := .lst []) hL
      have xl := o.len
      refine lc_it (walk_tup (xs := xs)) (fun i H' => H' L = some (.lst ((bs.take i).map V.bl)) ∧ Same H H') ⟨upd_same, sL⟩ (fun _ _ _ ⟨_, sm⟩ => same_tup sm _ _ hq) ?_ ?_
      · rintro i v G G' hi ⟨gL, sm⟩ ⟨rfl, hv⟩
        obtain ⟨b, hb, ob⟩ := o.get i v hv
        refine ⟨rfl, yes ?_⟩
        refine ⟨.str z, rfl, v, rfl, z, v, b, rfl, ob.same sm, fun H2 s2 => ?_⟩
        refine ⟨_, s2 _ _ gL, ?_, ?_, fun b o e => (upd_ne (ne_of_none e hL)).trans ((sm.trans s2) _ _ e)⟩
        · rw [List.length_map, List.length_take, sizeLine_eq]
          omega
        · rw [upd_same, List.take_add_one, hb, List.map_append]
          rfl
      · rintro G ⟨gL, sm⟩
        refine ⟨L, _, rfl, SqL.of gL, ?_⟩
        rw [xl, List.take_length]
        exact k _ sm
end
end DW
/-! class Language: made, contains -/
namespace DW
open PySem PySem.Spec PyProof.Rows L2 TL
set_option autoImplicit false
def clsBody (s : Stmt) : List Stmt := match s with
  | .ClassDef _ _ _ b _ _ _ _ _ _ _ => b
  | _ => []
def clsS (i j : Nat) : Stmt := (clsBody (topS i)).getD j (.Pass ⟨0, 0, 0, 0⟩)
abbrev sLangInit : Stmt := clsS 31 0
abbrev sLangContains : Stmt := clsS 31 3
/-- a method as the top has made it -/
structure DfM (K : PySem.W.Frag) (C : Addr) (x q : Str) (st : Stmt) (ps : List Str) where
  f : Addr
  fd : FuncData
  F : FunD K x q (defArgs st) (defBody st) (defScope st) [] [] f fd
  b : Binds K fd ps []
/-- the class -/
structure DfC (K : PySem.W.Frag) (mg : Str → Option Value) where
  C : Addr
  g : mg "Language" = some (.ref C)
  cl : Cls K C
  nB : NoAttr K C "base"
  nM : NoAttr K C "maximal"
  i : DfM K C "__init__" "Language.__init__" sLangInit ["self", "alphabet", "products"]
  mkr : Mk K C i.f
  c : DfM K C "contains" "Language.contains" sLangContains ["self", "word"]
  mc : Meth K C "contains" c.f
structure DfLa (K : PySem.W.Frag) (mg : Str → Option Value) extends DfC K mg where
  al : Df K mg "is_alphabet" sIsAlphabet ["thing"]
  pr : DfPr K mg
  mx : DfMx K mg
  sp : Df K mg "subwords_product" sSubwordsProduct ["word"]
  me : mg "enumerate" = none
  mli : mg "list" = none
def flL (z : Str) (q : Addr) : List (Str × V) := putF "maximal" (.ref q) (putF "base" (.str z) [])
theorem flL_base (z : Str) (q : Addr) : (flL z q).lookup ("base" : Str) = some (V.str z) := by
  unfold flL
  rw [lookup_putF, if_neg (by decide), lookup_putF, if_pos rfl]
theorem flL_max (z : Str) (q : Addr) : (flL z q).lookup ("maximal" : Str) = some (V.ref q) := by
  unfold flL
  rw [lookup_putF, if_pos rfl]
theorem flL_no {m : Str} (z : Str) (q : Addr) (h1 : m ≠ "maximal") (h2 : m ≠ "base") : (flL z q).lookup m = none := by
  unfold flL
  rw [lookup_putF, if_neg h1, lookup_putF, if_neg h2]
  rfl
/-- a Language stands at p -/
structure LaAt (K : PySem.W.Frag) (C : Addr) (H : Hp) (p : Addr) (z : Str) (zs : List (List Fc)) : Prop where
  ob : ∃ dx q ys, H p = some (.ins C dx (flL z q)) ∧ H q = some (.lst ys) ∧ IsL K H ys zs
def spLi (K : PySem.W.Frag) (C : Addr) : Sp := fun vs H Q _ => ∃ (p dx a : Addr) (z : Str) (xs : List V) (ps : List (List Fc)), vs = [.ref p, .str z, .ref a] ∧ H p = some (.ins C dx []) ∧ H a = some (.lst xs) ∧ IsL K H xs ps ∧ Alph z ∧ ps.length ≤ 1000000 ∧ (∀ p ∈ ps, p.length ≤ 10000 ∧ ∀ f ∈ p, FOk z f) ∧
  ∀ H' zs, (∀ b o, H b = some o → b ≠ p → H' b = some o) → LaAt K C H' p z zs → MaxOf ps zs → (∃ dx q ys, H' p = some (.ins C dx (flL z q)) ∧ H' q = some (.lst ys) ∧ IsL K H' ys zs ∧ H q = none) → Q .non H'
section
variable {P : Program} {w : World} {K : PySem.W.Frag} {mg : Str → Option Value} {base : Heap}
theorem alphB_of {z : Str} (h : Alph z) : alphB (tl z) = true := by
  obtain ⟨h1, h2, h3, h4⟩ := h
  unfold alphB
  rw [decide_eq_true h2, decide_eq_true h3, ascB_of h1]
  simp only [Bool.true_and, Bool.and_true]
  refine List.all_eq_true.mpr fun c hc => ?_
  unfold lowB
  rw [decide_eq_true (h4 c hc).1, decide_eq_true (h4 c hc).2]
  rfl
theorem upd_ins {K : PySem.W.Frag} {H : Hp} {p C dx : Addr} {fs : List (Str × V)} {o : HO} (hp : H p = some (.ins C dx fs)) (b : Addr) (xs : List V) (h : SqT K H b xs) : SqT K (upd H p o) b xs := by
  rcases h with (h | ⟨v, h⟩) | h
  · exact .inl (.inl ((upd_ne (ne_of h hp (by intro z; cases z))).trans h))
  · exact .inl (.inr ⟨v, (upd_ne (ne_of h hp (by intro z; cases z))).trans h⟩)
  · exact .inr h
theorem lst_kit {K : PySem.W.Frag} : PySem.W.kitOne K (.type "list") (.type "list") = some true := kit_ty (by decide +kernel)
theorem scLi : FnScope ["self", "alphabet", "products", "index", "product"] ["self", "alphabet", "products"] (defScope sLangInit) := ⟨rfl, rfl, rfl, by decide +kernel, rfl, by decide +kernel, by decide +kernel⟩
theorem ok_li (D : DfLa K mg) : FnOk P w K mg base CX0 7 D.i.f D.i.fd ["self", "alphabet", "products"] (spLi K D.C) := by
  have Ga : FnOk P w K mg base CX0 2 D.al.f D.al.fd ["thing"] (spAlp K) := ok_alp D.al D.pr.a D.pr.ma D.pr.mz D.pr.mi D.pr.ms D.pr.ml D.mx.mm
  have Gp : FnOk P w K mg base CX0 3 D.pr.p.f D.pr.p.fd ["alphabet", "thing"] (spIp K) := ok_ip D.pr
  have Gm : FnOk P w K mg base CX0 6 D.mx.m.f D.mx.m.fd ["products"] (spMx K) := ok_mx D.mx
  refine D.i.F.ok scLi (fun vs H Q E h => ?_) (fun cdv A outer s H vs Q E hr h => ?_)
  · obtain ⟨p, dx, a, z, xs, ps, rfl, _⟩ := h
    rfl
  · obtain ⟨p, dx, a, z, xs, ps, rfl, hp, ha, iL, al, pl, pok, k⟩ := h
    have hr2 : Room 2 _ := hr.mono (by decide)
    have hr3 : Room 3 _ := hr.mono (by decide)
    have xl := iL.len
    refine ⟨_, PSs.nox (pss_cons (ps_if (pt_not (pt_val (pe_call Ga hr2 (by rfl) D.al.g D.al.F.kp D.al.b .nil pass0 (pa_cons (pv 1) pa_nil)))) (pss_one ps_never) pss_nil) (pss_cons (ps_if (pt_not (pt_val (pe_callB call_isiT (by rfl) D.pr.mi (by decide +kernel) (pa_cons (pv 2) (pa_cons (pe_tup (pa_cons (pe_bltn (v := V.ty "list") (by rfl) D.mli (by decide +kernel : bootBuiltins "list" = some (.type "list")) rfl) (pa_cons (pe_bltn (v := V.ty "tuple") (by rfl) D.pr.mt (by decide +kernel : bootBuiltins "tuple" = some (.type "tuple")) rfl) pa_nil))) pa_nil))))) (pss_one ps_never) pss_nil) (pss_cons (ps_for PassesOwn.never rfl (pi_enum (by rfl) D.me (pa_cons (pv 2) pa_nil)) (pg_tup rfl (pgs_cons (pg_name (i := 3) scLi.nd rfl (.inl rfl)) (pgs_cons (pg_name (i := 4) scLi.nd rfl (.inl rfl)) pgs_nil))) (pss_one (ps_if (pt_not (pt_val (pe_call Gp hr3 (by rfl) D.pr.p.g D.pr.p.F.kp D.pr.p.b .nil pass0 (pa_cons (pv 1) (pa_cons (pv 4) pa_nil))))) (pss_one ps_never) pss_nil))) (pss_cons (ps_fld (pv 0) (pv 1) rfl) (pss_one (ps_fld (pv 0) (pe_call Gm hr (by rfl) D.mx.m.g D.mx.m.F.kp D.mx.m.b .nil pass0 (pa_cons (pv 2) pa_nil)) rfl)))))), ?_⟩
    have zl : (tl z).length ≤ 100000 := by
      have := al.2.2.1
      omega
    refine ⟨.str z, rfl, .str z, rfl, .inl ⟨z, rfl, zl, fun H1 s1 => ⟨_, rfl, ?_⟩⟩⟩
    rw [alphB_of al]
    refine iteF ?_
    refine ⟨.ref a, rfl, by rw [sizeLine_eq]; decide, fun T0 hT0 => ?_⟩
    have sT := same_upd (o := .tup [V.ty "list", V.ty "tuple"]) hT0
    have sH := s1.trans sT
    refine ⟨.ref a, T0, _, .type "list", [.type "list", .type "tuple"], true, rfl, upd_same, .cons (.ty _) (.cons (.ty _) .nil), .base (.lst (sH _ _ ha)), ?_, true, rfl, iteF ?_⟩
    · unfold PySem.W.kitAny
      rw [lst_kit]
    refine ⟨.ref a, rfl, a, xs, rfl, SqL.of (sH _ _ ha), for_it (walk_enum (xs := xs)) (fun i σ G => ∃ y3 y4, σ = [some (.ref p), some (.str z), some (.ref a), y3, y4] ∧ Same H G) ⟨_, _, rfl, sH⟩ (fun _ _ _ _ ⟨_, _, _, sm⟩ => SqL.of (sm _ _ ha)) ?_ ?_⟩
    · rintro i x σ G G' hi ⟨y3, y4, rfl, sm⟩ ⟨T, c, y, rfl, hT, rfl, hc, hy⟩
      have s2 := sm.trans (same_upd (o := .tup [c, y]) hT)
      obtain ⟨q, hq, isq⟩ := iL.get i y hy
      have qm : q ∈ ps := List.mem_of_getElem? hq
      obtain ⟨q1, q2⟩ := pok q qm
      refine ⟨T, [c, y], rfl, SqT.of upd_same, rfl, _, _, rfl, _, _, rfl, rfl, ?_⟩
      exact ⟨.str z, rfl, y, rfl, z, y, true, rfl, IsP.pr al (isq.mono (same_tup s2)) q2 (by omega), fun H2 s3 => ⟨_, rfl, iteF ⟨_, _, rfl, s2.trans s3⟩⟩⟩
    · rintro σ G ⟨y3, y4, rfl, sm⟩
      have hpG := sm _ _ hp
      have npa : a ≠ p := ne_of ha hp (by intro z; cases z)
      refine ⟨.str z, rfl, .ref p, rfl, p, D.C, dx, [], rfl, hpG, D.cl, D.nB, by decide, ?_⟩
      refine ⟨.ref a, rfl, a, xs, ps, rfl, SqL.of ((upd_ne npa).trans (sm _ _ ha)), (iL.mono (same_tup sm)).mono (fun b xs h => upd_ins hpG b xs h), pl, fun q hq => ⟨(pok q hq).1, fun f hf => fok_low al ((pok q hq).2 f hf)⟩, fun H' q ys zs s2 nq hq iZ mo => ?_⟩
      have hp2 := s2 _ _ (upd_same : (upd G p (.ins D.C dx (putF "base" (V.str z) []))) p = _)
      have nqp : q ≠ p := fun e => by
        rw [e, upd_same] at nq
        cases nq
      refine ⟨.ref p, rfl, p, D.C, dx, _, rfl, hp2, D.cl, D.nM, (by show 1 < 1000; decide), ?_⟩
      have fq : H q = none := by
        rw [upd_ne nqp] at nq
        exact sm.free nq
      refine k _ zs (fun b o hb nb => ?_) ⟨dx, q, ys, upd_same, (upd_ne nqp).trans hq, iZ.mono (fun b xs h => upd_ins hp2 b xs h)⟩ mo ⟨dx, q, ys, upd_same, (upd_ne nqp).trans hq, iZ.mono (fun b xs h => upd_ins hp2 b xs h), fq⟩
      exact (upd_ne nb).trans (s2 _ _ ((upd_ne nb).trans (sm _ _ hb)))
end
end DW
/-! class Language: contains, and what it says -/
namespace DW
open PySem PySem.Spec PyProof.Rows L2 TL
set_option autoImplicit false
def hasW (zs : List (List Fc)) (u : List Nat) : Bool := zs.any fun q => inc q (ones u)
def spLc (K : PySem.W.Frag) (C : Addr) : Sp := fun vs H Q _ => ∃ (p : Addr) (x z : Str) (zs : List (List Fc)), vs = [.ref p, .str x] ∧ LaAt K C H p z zs ∧ (∀ q ∈ zs, ∀ f ∈ q, Low f) ∧ (∀ c ∈ tl x, c < 128) ∧ (tl x).length ≤ 100000 ∧ ∀ H', Same H H' → Q (.bl (hasW zs (tl x))) H'
section
variable {P : Program} {w : World} {K : PySem.W.Frag} {mg : Str → Option Value} {base : Heap}
theorem LaAt.same {C : Addr} {H H' : Hp} {p : Addr} {z : Str} {zs : List (List Fc)} (L : LaAt K C H p z zs) (s : Same H H') : LaAt K C H' p z zs := by
  obtain ⟨dx, q, ys, h1, h2, h3⟩ := L
  exact ⟨dx, q, ys, s _ _ h1, s _ _ h2, h3.mono (same_tup s)⟩
theorem LaAt.kp {C : Addr} {H H' : Hp} {t p : Addr} {z : Str} {zs : List (List Fc)} (L : LaAt K C H p z zs) (s : Kp t H H') : LaAt K C H' p z zs := by
  obtain ⟨dx, q, ys, h1, h2, h3⟩ := L
  exact ⟨dx, q, ys, s.at h1 (fun _ z => by cases z), s.at h2 (fun _ z => by cases z), h3.mono (kp_tup s)⟩
theorem LaAt.put {C : Addr} {H : Hp} {p b : Addr} {o u : HO} {z : Str} {zs : List (List Fc)} (L : LaAt K C H p z zs) (hb : H b = some u) (n1 : ∀ C dx fs, u ≠ .ins C dx fs) (n2 : ∀ dx q ys, H p = some (.ins C dx (flL z q)) → H q = some (.lst ys) → b ≠ q) (m : ∀ c xs, SqT K H c xs → SqT K (upd H b o) c xs) : LaAt K C (upd H b o) p z zs := by
  obtain ⟨dx, q, ys, h1, h2, h3⟩ := L
  exact ⟨dx, q, ys, (upd_ne (ne_of h1 hb (fun z => n1 _ _ _ z.symm))).trans h1, (upd_ne (n2 dx q ys h1 h2).symm).trans h2, h3.mono m⟩
theorem scLc : FnScope ["self", "word"] ["self", "word"] (defScope sLangContains) := ⟨rfl, rfl, rfl, by decide +kernel, rfl, by decide +kernel, by decide +kernel⟩
theorem ok_lc (D : DfLa K mg) : FnOk P w K mg base CX0 6 D.c.f D.c.fd ["self", "word"] (spLc K D.C) := by
  have Gs : FnOk P w K mg base CX0 1 D.sp.f D.sp.fd ["word"] (spSubw K) := ok_subw D.sp D.pr.mt
  have Gi : FnOk P w K mg base CX0 5 D.mx.i.f D.mx.i.fd ["product", "products"] (spIn K) := ok_in D.mx.i D.mx.incl D.pr.ma D.pr.ml
  refine D.c.F.ok scLc (fun vs H Q E h => ?_) (fun cdv A outer s H vs Q E hr h => ?_)
  · obtain ⟨p, x, z, zs, rfl, _⟩ := h
    rfl
  · obtain ⟨p, x, z, zs, rfl, ⟨dx, q, ys, h1, h2, h3⟩, zlow, xlow, xl, k⟩ := h
    have hr1 : Room 1 _ := hr.mono (by decide)
    refine ⟨_, (pss_one (ps_ret (pe_call Gi hr (by rfl) D.mx.i.g D.mx.i.F.kp D.mx.i.b .nil pass0 (pa_cons (pe_call Gs hr1 (by rfl) D.sp.g D.sp.F.kp D.sp.b .nil pass0 (pa_cons (pv 1) pa_nil)) (pa_cons (pe_fld (pv 0) rfl) pa_nil))))), ?_⟩
    refine ⟨.str x, rfl, x, rfl, xl, fun H1 v s1 isv => ?_⟩
    exact ⟨.ref p, rfl, p, D.C, dx, _, _, rfl, s1 _ _ h1, D.cl, D.nM, flL_max _ _, v, q, ones (tl x), ys, zs, rfl, isv, SqL.of (s1 _ _ h2), h3.mono (same_tup s1), low_ones xlow, zlow, fun H2 s2 => k _ (s1.trans s2)⟩
/-! ### what contains says -/
theorem pick_sup : ∀ (l : List Gp) (M : List (List Fc)) (r : List Fc), (r ∈ M ∨ (∃ m ∈ M, inc m r = true) ∨ ∃ g ∈ l, r ∈ g.2) → r ∈ l.foldl keepG M ∨ ∃ m ∈ l.foldl keepG M, inc m r = true
  | [], M, r, h => by
    rcases h with q | q | ⟨g, hg, _⟩
    · exact .inl q
    · exact .inr q
    · exact (nomatch hg)
  | g :: l, M, r, h => by
    refine pick_sup l _ r ?_
    rcases h with q | ⟨m, hm, hi⟩ | ⟨g', hg, hr⟩
    · exact .inl (List.mem_append_left _ q)
    · exact .inr (.inl ⟨m, List.mem_append_left _ hm, hi⟩)
    · rcases List.mem_cons.mp hg with e | e
      · subst e
        cases c : M.any fun m => inc m r with
        | false => exact .inl (List.mem_append_right _ (List.mem_filter.mpr ⟨hr, by rw [c]; rfl⟩))
        | true =>
          obtain ⟨m, hm, hi⟩ := List.any_eq_true.mp c
          exact .inr (.inl ⟨m, List.mem_append_left _ hm, hi⟩)
      · exact .inr (.inr ⟨g', e, hr⟩)
theorem MaxOf.sub {ps zs : List (List Fc)} (M : MaxOf ps zs) : ∀ q ∈ zs, ∃ p ∈ ps, q = red p := fun q hq => by
  obtain ⟨Gs, gr, rfl⟩ := M
  rcases pick_sub _ _ q (List.mem_mergeSort.mp hq) with e | ⟨g, h1, h2⟩
  · exact (nomatch e)
  · exact (gr.mem q).mp ⟨g, List.mem_mergeSort.mp h1, h2⟩
theorem MaxOf.sup {ps zs : List (List Fc)} (M : MaxOf ps zs) : ∀ p ∈ ps, red p ∈ zs ∨ ∃ m ∈ zs, inc m (red p) = true := fun p hp => by
  obtain ⟨Gs, gr, rfl⟩ := M
  obtain ⟨g, h1, h2⟩ := (gr.mem (red p)).mpr ⟨p, hp, rfl⟩
  rcases pick_sup (Gs.mergeSort leK) [] (red p) (.inr (.inr ⟨g, List.mem_mergeSort.mpr h1, h2⟩)) with q | ⟨m, hm, hi⟩
  · exact .inl (List.mem_mergeSort.mpr q)
  · exact .inr ⟨m, List.mem_mergeSort.mpr hm, hi⟩
theorem red_w1 {p : List Fc} (h : W1 p) : W1 (red p) := fun f hf => h f (red_mem hf)
theorem MaxOf.has {ps zs : List (List Fc)} (M : MaxOf ps zs) (wp : ∀ p ∈ ps, W1 p) (u : List Nat) : hasW zs u = true ↔ ∃ p ∈ ps, Lg p u := by
  unfold hasW
  rw [List.any_eq_true]
  constructor
  · rintro ⟨q, hq, hi⟩
    obtain ⟨p, hp, rfl⟩ := M.sub q hq
    exact ⟨p, hp, (red_lg p u).mpr ((acc_iff (red_w1 (wp p hp)) u).mp hi)⟩
  · rintro ⟨p, hp, hl⟩
    have l1 : Lg (red p) u := (red_lg p u).mp hl
    rcases M.sup p hp with q | ⟨m, hm, hi⟩
    · exact ⟨_, q, (acc_iff (red_w1 (wp p hp)) u).mpr l1⟩
    · obtain ⟨p', hp', rfl⟩ := M.sub m hm
      exact ⟨_, hm, (acc_iff (red_w1 (wp p' hp')) u).mpr (inc_sound _ _ hi u l1)⟩
theorem MaxOf.low {ps zs : List (List Fc)} (M : MaxOf ps zs) (h : ∀ p ∈ ps, ∀ f ∈ p, Low f) : ∀ q ∈ zs, ∀ f ∈ q, Low f := fun q hq f hf => by
  obtain ⟨p, hp, rfl⟩ := M.sub q hq
  exact h p hp f (red_mem hf)
/-- fewer letters: still there -/
theorem MaxOf.less {ps zs : List (List Fc)} (M : MaxOf ps zs) (wp : ∀ p ∈ ps, W1 p) {u v : List Nat} (s : v.Sublist u) (h : hasW zs u = true) : hasW zs v = true := by
  obtain ⟨p, hp, hl⟩ := (M.has wp u).mp h
  exact (M.has wp v).mpr ⟨p, hp, hl.sub s⟩
end
end DW
/-! towards one list for each language: the product of all words -/
namespace DW
open PySem PySem.Spec PyProof.Rows L2 TL
set_option autoImplicit false
theorem Apart.lone {s : Fc} : ∀ {l : List Fc}, Apart l → s ∈ l → (∀ f ∈ l, sw s f = true) → l = [s]
  | [], _, h, _ => (nomatch h)
  | [x], _, h, _ => by rw [List.mem_singleton.mp h]
  | x :: y :: r, ha, h, hs => by
    rcases List.mem_cons.mp h with e | e
    · subst e
      have h1 := hs y (by simp)
      rw [ha.1] at h1
      cases h1
    · have ih := Apart.lone (l := y :: r) ha.2.2 e fun f hf => hs f (List.mem_cons_of_mem _ hf)
      have ey : y = s := (List.cons.inj ih).1
      have h1 := hs x (by simp)
      rw [← ey, ha.2.1] at h1
      cases h1
theorem sw_all {z : Str} {f : Fc} (h : FOk z f) : sw (true, z) f = true := sw_of rfl fun c hc => h.2.1.subset hc
theorem red_lone {z : Str} {fs : List Fc} (ok : ∀ f ∈ fs, FOk z f) (h : (true, z) ∈ red fs) : red fs = [(true, z)] := by
  have hm : (true, z) ∈ fs.foldl stp [] := List.mem_reverse.mp h
  have e := Apart.lone (fold_apart fs [] trivial) hm fun f hf => sw_all (ok f (red_mem (List.mem_reverse.mpr hf)))
  unfold red
  rw [e]
  rfl
theorem star_of {z : Str} {f : Fc} (h : FOk z f) (k : f.1 = true) (l : (ls f).length = (tl z).length) : f = (true, z) := by
  have e : tl f.2 = tl z := h.2.1.eq_of_length l
  obtain ⟨a, b⟩ := f
  simp only at k e
  rw [k, tl_inj e]
/-- a product that takes in the star of the alphabet has it as a factor -/
theorem inc_star {z : Str} : ∀ {q : List Fc}, inc q [(true, z)] = true → ∃ f ∈ q, cov f (true, z) = true
  | [], h => by simp [inc] at h
  | g :: q, h => by
    by_cases c : cov g (true, z) = true
    · exact ⟨g, List.mem_cons_self, c⟩
    · rw [inc, if_neg c] at h
      obtain ⟨f, hf, hc⟩ := inc_star (q := q) h
      exact ⟨f, List.mem_cons_of_mem _ hf, hc⟩
theorem cov_star {z : Str} {f : Fc} (ok : FOk z f) (al : Alph z) (h : cov f (true, z) = true) : f = (true, z) := by
  unfold cov at h
  rcases Bool.or_eq_true_iff.mp h with e | e
  · exact of_decide_eq_true e
  · have nd : (tl z).Nodup := al.1.imp fun h => by omega
    refine star_of ok (sw_star e) (Nat.le_antisymm ok.2.1.length_le ?_)
    exact nd.length_le_of_subset fun c hc => sw_sub e c hc
/-- a product that has all words over the alphabet is reduced to its star -/
theorem red_full {z : Str} {p : List Fc} (ok : ∀ f ∈ p, FOk z f) (al : Alph z) (h : inc (red p) [(true, z)] = true) : red p = [(true, z)] := by
  obtain ⟨f, hf, hc⟩ := inc_star (z := z) h
  have e := cov_star (ok f (red_mem hf)) al hc
  rw [e] at hf
  exact red_lone ok hf
/-! ### sizes grow with inclusion -/
def cz (k : Int) (r : List Fc) : Nat := (szs r).count k
theorem cz_app (k : Int) (a b : List Fc) : cz k (a ++ b) = cz k a + cz k b := by
  unfold cz szs
  rw [List.map_append, List.count_append]
theorem cz_nil (k : Int) : cz k [] = 0 := rfl
def sz1 (f : Fc) : Int := if f.1 = true then ((ls f).length : Int) else 0
theorem cz_one (k : Int) (f : Fc) : cz k [f] = if sz1 f = k then 1 else 0 := by
  show List.count k [sz1 f] = _
  rw [List.count_singleton]
  by_cases e : sz1 f = k
  · rw [if_pos e, e]; simp
  · rw [if_neg e]; simp [e]
def Lx (r q : List Fc) : Prop := cz 3 r < cz 3 q ∨ (cz 3 r = cz 3 q ∧ (cz 2 r < cz 2 q ∨ (cz 2 r = cz 2 q ∧ (cz 1 r < cz 1 q ∨ (cz 1 r = cz 1 q ∧ cz 0 r < cz 0 q)))))
theorem Lx.app {a b c d : List Fc} (h : Lx a b) (k : c = d ∨ Lx c d) : Lx (a ++ c) (b ++ d) := by
  unfold Lx at *
  simp only [cz_app]
  rcases k with e | k
  · subst e
    omega
  · omega
theorem Lx.app2 {a c d : List Fc} (k : Lx c d) : Lx (a ++ c) (a ++ d) := by
  unfold Lx at *
  simp only [cz_app]
  omega
theorem Apart.tw (p : Fc → Bool) : ∀ {st : List Fc}, Apart st → Apart (st.takeWhile p)
  | [], _ => trivial
  | [g], _ => by
    rw [List.takeWhile_cons]
    split <;> trivial
  | g :: h :: st, ha => by
    have ih := Apart.tw p ha.tail
    rw [List.takeWhile_cons]
    split
    · rw [List.takeWhile_cons] at ih ⊢
      split at ih
      · rename_i q
        rw [if_pos q]
        exact ⟨ha.1, ha.2.1, ih⟩
      · rename_i q
        rw [if_neg q]
        trivial
    · trivial
theorem inc_run {g : Fc} {q : List Fc} (k : g.1 = true) : ∀ r : List Fc, inc (g :: q) r = inc q (r.dropWhile (cov g)) 
  | [] => by
    rw [List.dropWhile_nil]
    simp [inc]
  | f :: r => by
    rw [List.dropWhile_cons]
    by_cases c : cov g f = true
    · rw [inc, if_pos c, if_pos k, if_pos c]
      exact inc_run k r
    · rw [inc, if_neg c, if_neg c]
theorem sz1_le {z : Str} {f : Fc} (al : Alph z) (h : FOk z f) : 0 ≤ sz1 f ∧ sz1 f ≤ 3 := by
  have := fok_len al h
  unfold sz1
  split
  · omega
  · omega
theorem cz_zero {k : Int} : ∀ {r : List Fc}, (∀ f ∈ r, sz1 f ≠ k) → cz k r = 0
  | [], _ => rfl
  | f :: r, h => by
    have e := cz_app k [f] r
    rw [cz_one, if_neg (h f List.mem_cons_self), cz_zero fun g hg => h g (List.mem_cons_of_mem _ hg)] at e
    exact e
theorem Lx.nil {z : Str} (al : Alph z) {g : Fc} {q : List Fc} (h : FOk z g) : Lx [] (g :: q) := by
  have e : ∀ k, cz k (g :: q) = (if sz1 g = k then 1 else 0) + cz k q := fun k => by
    rw [← cz_one]
    exact cz_app k [g] q
  have s := sz1_le al h
  unfold Lx
  rw [e, e, e, e, cz_nil, cz_nil, cz_nil, cz_nil]
  have : sz1 g = 0 ∨ sz1 g = 1 ∨ sz1 g = 2 ∨ sz1 g = 3 := by omega
  rcases this with w | w | w | w <;> rw [w] <;> simp <;> omega
theorem asc_sub : ∀ (m l : List Nat), l.Pairwise (· < ·) → m.Pairwise (· < ·) → (∀ c ∈ l, c ∈ m) → l.Sublist m
  | [], [], _, _, _ => .slnil
  | [], a :: l, _, _, h => (nomatch h a List.mem_cons_self)
  | b :: m, [], _, _, _ => List.nil_sublist _
  | b :: m, a :: l, pl, pm, h => by
    have pl' := List.pairwise_cons.mp pl
    have pm' := List.pairwise_cons.mp pm
    by_cases e : a = b
    · subst e
      refine (asc_sub m l pl'.2 pm'.2 fun c hc => ?_).cons_cons a
      rcases List.mem_cons.mp (h c (List.mem_cons_of_mem _ hc)) with q | q
      · have := pl'.1 c hc
        omega
      · exact q
    · refine (asc_sub m (a :: l) pl pm'.2 fun c hc => ?_).cons b
      have am : a ∈ m := (List.mem_cons.mp (h a List.mem_cons_self)).resolve_left e
      have ab := pm'.1 a am
      rcases List.mem_cons.mp (h c hc) with q | q
      · rcases List.mem_cons.mp hc with w | w
        · exact absurd (w.symm.trans q) e
        · have := pl'.1 c w
          omega
      · exact q
theorem Lx.run {z : Str} (al : Alph z) {g : Fc} {run : List Fc} (hg : FOk z g) (k : g.1 = true) (ok : ∀ f ∈ run, FOk z f) (h : ∀ f ∈ run, sw g f = true) (n : g ∉ run) : Lx run [g] := by
  have less : ∀ f ∈ run, sz1 f < sz1 g := fun f hf => by
    have kg : sz1 g = ((ls g).length : Int) := by unfold sz1; rw [if_pos k]
    have g1 : 1 ≤ (ls g).length := by
      have := hg.1
      rcases e : tl g.2 with _ | ⟨x, y⟩
      · exact absurd e this
      · show 1 ≤ (tl g.2).length
        rw [e]
        simp
    rw [kg]
    unfold sz1
    split
    · rename_i kf
      have pf : (tl f.2).Pairwise (· < ·) := List.Pairwise.sublist (ok f hf).2.1 al.1
      have pg : (tl g.2).Pairwise (· < ·) := List.Pairwise.sublist hg.2.1 al.1
      have sub : (tl f.2).Sublist (tl g.2) := asc_sub _ _ pf pg (sw_sub (h f hf))
      have le : (ls f).length ≤ (ls g).length := sub.length_le
      rcases Nat.lt_or_eq_of_le le with q | q
      · omega
      · have e2 : f.2 = g.2 := tl_inj (sub.eq_of_length q)
        have e1 : f = g := by
          obtain ⟨a, b⟩ := f
          obtain ⟨c, d⟩ := g
          simp only at e2 kf k
          rw [e2, kf, k]
        rw [e1] at hf
        exact absurd hf n
    · omega
  have s := sz1_le al hg
  have e : ∀ j, cz j [g] = if sz1 g = j then 1 else 0 := fun j => cz_one j g
  have z0 : ∀ j, sz1 g ≤ j → cz j run = 0 := fun j hj => cz_zero fun f hf w => by have := less f hf; omega
  have : sz1 g = 0 ∨ sz1 g = 1 ∨ sz1 g = 2 ∨ sz1 g = 3 := by omega
  unfold Lx
  rw [e, e, e, e]
  rcases this with w | w | w | w
  · rw [z0 3 (by omega), z0 2 (by omega), z0 1 (by omega), z0 0 (by omega), w]; simp
  · rw [z0 3 (by omega), z0 2 (by omega), z0 1 (by omega), w]; simp
  · rw [z0 3 (by omega), z0 2 (by omega), w]; simp
  · rw [z0 3 (by omega), w]; simp
theorem mem_tw {p : Fc → Bool} {f : Fc} : ∀ {l : List Fc}, f ∈ l.takeWhile p → p f = true
  | [], h => (nomatch h)
  | x :: l, h => by
    rw [List.takeWhile_cons] at h
    split at h
    · rename_i q
      rcases List.mem_cons.mp h with e | e
      · rw [e]; exact q
      · exact mem_tw e
    · exact (nomatch h)
theorem inc_size {z : Str} (al : Alph z) : ∀ (q r : List Fc), (∀ f ∈ q, FOk z f) → (∀ f ∈ r, FOk z f) → Apart r → inc q r = true → r = q ∨ Lx r q
  | [], [], _, _, _, _ => .inl rfl
  | [], f :: r, _, _, _, h => by simp [inc] at h
  | g :: q, r, oq, or, ap, h => by
    have oq' : ∀ f ∈ q, FOk z f := fun f hf => oq f (List.mem_cons_of_mem _ hf)
    have og := oq g List.mem_cons_self
    by_cases k : g.1 = true
    · rw [inc_run k] at h
      have hr : r.takeWhile (cov g) ++ r.dropWhile (cov g) = r := List.takeWhile_append_dropWhile
      have mt : ∀ f ∈ r.takeWhile (cov g), f ∈ r := fun f hf => by rw [← hr]; exact List.mem_append_left _ hf
      have md : ∀ f ∈ r.dropWhile (cov g), f ∈ r := fun f hf => by rw [← hr]; exact List.mem_append_right _ hf
      have swt : ∀ f ∈ r.takeWhile (cov g), sw g f = true := fun f hf => by
        have c : cov g f = true := mem_tw hf
        rcases Bool.or_eq_true_iff.mp c with e | e
        · rw [← of_decide_eq_true e]
          exact sw_of k fun c hc => hc
        · exact e
      have ih := inc_size al q _ oq' (fun f hf => or f (md f hf)) (ap.dw _) h
      by_cases m : g ∈ r.takeWhile (cov g)
      · have e := Apart.lone (ap.tw (cov g)) m swt
        rw [e] at hr
        rcases ih with i | i
        · rw [i] at hr
          exact .inl hr.symm
        · rw [← hr]
          exact .inr (Lx.app2 (a := [g]) i)
      · have l := Lx.run al og k (fun f hf => or f (mt f hf)) swt m
        rw [← hr]
        exact .inr (l.app (b := [g]) ih)
    · have lg : Lx [] [g] := Lx.nil al og
      match r, or, ap, h with
      | [], _, _, _ => exact .inr (Lx.nil al og)
      | f :: p, or, ap, h =>
        by_cases c : cov g f = true
        · have e : g = f := by
            rcases Bool.or_eq_true_iff.mp c with e | e
            · exact of_decide_eq_true e
            · exact absurd (sw_star e) k
          subst e
          rw [inc, if_pos c, if_neg k] at h
          rcases inc_size al q p oq' (fun f hf => or f (List.mem_cons_of_mem _ hf)) ap.tail h with i | i
          · exact .inl (by rw [i])
          · exact .inr (Lx.app2 (a := [g]) i)
        · rw [inc, if_neg c] at h
          exact .inr (lg.app (inc_size al q (f :: p) oq' or ap h))
/-! ### one list: no product of it is inside another one -/
theorem apart_snoc {x : Fc} : ∀ {l : List Fc}, Apart l → (∀ y, l.getLast? = some y → sw y x = false ∧ sw x y = false) → Apart (l ++ [x])
  | [], _, _ => trivial
  | [f], _, h => ⟨(h f rfl).1, (h f rfl).2, trivial⟩
  | f :: g :: r, ha, h => ⟨ha.1, ha.2.1, apart_snoc (l := g :: r) ha.2.2 fun y hy => h y (by rw [List.getLast?_cons_cons]; exact hy)⟩
theorem Apart.rev : ∀ {l : List Fc}, Apart l → Apart l.reverse
  | [], _ => trivial
  | f :: r, ha => by
    rw [List.reverse_cons]
    refine apart_snoc ha.tail.rev fun y hy => ?_
    rw [List.getLast?_reverse] at hy
    cases r with
    | nil => cases hy
    | cons g r =>
      cases hy
      exact ⟨ha.2.1, ha.1⟩
theorem red_apart (fs : List Fc) : Apart (red fs) := (fold_apart fs [] trivial).rev
theorem Lx.lt {r q : List Fc} (h : Lx r q) : sizeT r < sizeT q := by
  unfold Lx cz at h
  unfold sizeT
  rw [List.cons_lt_cons_iff, List.cons_lt_cons_iff, List.cons_lt_cons_iff, List.cons_lt_cons_iff]
  omega
theorem leK_eq (a b : Gp) : leK a b = !decide (a.1 < b.1) := by
  show PySem.W.dataLe true (fun g : Gp => (numKey g.1).data) a b = _
  rw [PySem.W.dataLe_eq]
  simp only [cond_true]
  rw [data_num, data_num]
  exact congrArg _ (PySem.W.dataLt_ints a.1 b.1)
theorem leK_sorted (Gs : List Gp) : (Gs.mergeSort leK).Pairwise fun a b => ¬ a.1 < b.1 := by
  have T : PySem.W.TotalLe leK := PySem.W.sortLe_total _ true _
  have p := List.pairwise_mergeSort (le := leK) (fun a b c h1 h2 => T.trans a b c h1 h2) (fun a b => Bool.or_eq_true_iff.mpr (T.total a b)) Gs
  refine p.imp fun h => ?_
  rw [leK_eq] at h
  simpa using h
structure Rz (z : Str) (r : List Fc) : Prop where
  ok : ∀ f ∈ r, FOk z f
  ap : Apart r
def Anti (M : List (List Fc)) : Prop := ∀ a ∈ M, ∀ b ∈ M, inc a b = true → b = a
theorem Rz.self {z : Str} {r : List Fc} (h : Rz z r) : inc r r = true := (inc_iff (fok_w1 h.ok) (fok_w1 h.ok)).mpr (Lg.unf _ r fun f hf => (fok_w1 h.ok f hf).2)
theorem pick_anti {z : Str} (al : Alph z) : ∀ (l : List Gp) (M : List (List Fc)), (∀ g ∈ l, ∀ r ∈ g.2, Rz z r ∧ sizeT r = g.1) → (∀ g ∈ l, g.2.Nodup) → (l.Pairwise fun a b => ¬ a.1 < b.1) → (∀ m ∈ M, Rz z m) → Anti M → M.Nodup → (∀ m ∈ M, ∀ g ∈ l, ¬ sizeT m < g.1) → Anti (l.foldl keepG M) ∧ (l.foldl keepG M).Nodup
  | [], M, _, _, _, _, hA, hN, _ => ⟨hA, hN⟩
  | g :: l, M, hr, hn, hp, hm, hA, hN, hb => by
    have hp' := List.pairwise_cons.mp hp
    have fl : ∀ r ∈ g.2.filter (fun r => !(M.any fun m => inc m r)), Rz z r ∧ sizeT r = g.1 ∧ ∀ m ∈ M, inc m r = false := fun r h => by
      obtain ⟨h1, h2⟩ := List.mem_filter.mp h
      obtain ⟨h3, h4⟩ := hr g List.mem_cons_self r h1
      refine ⟨h3, h4, fun m hm => ?_⟩
      cases c : inc m r with
      | false => rfl
      | true =>
        have : (M.any fun m => inc m r) = true := List.any_eq_true.mpr ⟨m, hm, c⟩
        rw [this] at h2
        cases h2
    have irr : ∀ x : List Int, ¬ x < x := fun x => List.lt_irrefl x
    refine pick_anti al l (keepG M g) (fun g' hg' => hr g' (List.mem_cons_of_mem _ hg')) (fun g' hg' => hn g' (List.mem_cons_of_mem _ hg')) hp'.2 ?_ ?_ ?_ ?_
    · intro m h
      rcases List.mem_append.mp h with q | q
      · exact hm m q
      · exact (fl m q).1
    · intro a ha b hb' hi
      rcases List.mem_append.mp ha with q | q
      · rcases List.mem_append.mp hb' with w | w
        · exact hA a q b w hi
        · have := (fl b w).2.2 a q
          rw [hi] at this
          cases this
      · obtain ⟨ra, sa, _⟩ := fl a q
        rcases List.mem_append.mp hb' with w | w
        · rcases inc_size al a b ra.ok (hm b w).ok (hm b w).ap hi with e | e
          · exact e
          · have := e.lt
            rw [sa] at this
            exact absurd this (hb b w g List.mem_cons_self)
        · obtain ⟨rb, sb, _⟩ := fl b w
          rcases inc_size al a b ra.ok rb.ok rb.ap hi with e | e
          · exact e
          · have := e.lt
            rw [sa, sb] at this
            exact absurd this (irr _)
    · refine List.nodup_append.mpr ⟨hN, (hn g List.mem_cons_self).filter _, fun a ha b hb' e => ?_⟩
      have := (fl b hb').2.2 a ha
      rw [e, (fl b hb').1.self] at this
      cases this
    · intro m h g' hg'
      rcases List.mem_append.mp h with q | q
      · exact hb m q g' (List.mem_cons_of_mem _ hg')
      · rw [(fl m q).2.1]
        exact hp'.1 g' hg'
theorem MaxOf.anti {z : Str} (al : Alph z) {ps zs : List (List Fc)} (M : MaxOf ps zs) (ok : ∀ p ∈ ps, ∀ f ∈ p, FOk z f) : Anti zs ∧ zs.Nodup := by
  obtain ⟨Gs, gr, rfl⟩ := M
  have h := pick_anti al (Gs.mergeSort leK) [] (fun g hg r hr => ?_) (fun g hg => gr.nd g (List.mem_mergeSort.mp hg)) (leK_sorted Gs) (fun m h => (nomatch h)) (fun a ha => (nomatch ha)) List.nodup_nil (fun m h => (nomatch h))
  · refine ⟨fun a ha b hb => h.1 a (List.mem_mergeSort.mp ha) b (List.mem_mergeSort.mp hb), ?_⟩
    exact (List.mergeSort_perm _ _).nodup_iff.mpr h.2
  · have hg' := List.mem_mergeSort.mp hg
    obtain ⟨p, hp, rfl⟩ := (gr.mem r).mp ⟨g, hg', hr⟩
    exact ⟨⟨fun f hf => ok p hp f (red_mem hf), red_apart p⟩, gr.key g hg' _ hr⟩
/-- all words: the star of the alphabet alone -/
theorem MaxOf.full {z : Str} (al : Alph z) {ps zs : List (List Fc)} (M : MaxOf ps zs) (ok : ∀ p ∈ ps, ∀ f ∈ p, FOk z f) {p : List Fc} (hp : p ∈ ps) (h : inc (red p) [(true, z)] = true) : zs = [[(true, z)]] := by
  have e := red_full (ok p hp) al h
  have an := M.anti al ok
  have oz : ∀ q ∈ zs, ∀ f ∈ q, FOk z f := fun q hq f hf => by
    obtain ⟨p', hp', rfl⟩ := M.sub q hq
    exact ok p' hp' f (red_mem hf)
  have all : ∀ q ∈ zs, inc [(true, z)] q = true := fun q hq => by
    have gen : ∀ l : List Fc, (∀ f ∈ l, FOk z f) → inc [(true, z)] l = true := fun l => by
      induction l with
      | nil => intro _; simp [inc]
      | cons f l ih =>
        intro h
        have c : cov (true, z) f = true := Bool.or_eq_true_iff.mpr (.inr (sw_all (h f List.mem_cons_self)))
        rw [inc, if_pos c, if_pos rfl]
        exact ih fun g hg => h g (List.mem_cons_of_mem _ hg)
    exact gen q (oz q hq)
  have mem : [(true, z)] ∈ zs := by
    rcases M.sup p hp with q | ⟨m, hm, hi⟩
    · rw [e] at q; exact q
    · rw [e] at hi
      obtain ⟨p', hp', rfl⟩ := M.sub m hm
      rw [red_full (ok p' hp') al hi] at hm
      exact hm
  have eqs : ∀ q ∈ zs, q = [(true, z)] := fun q hq => an.1 _ mem q hq (all q hq)
  match zs, mem, eqs, an.2 with
  | [q], _, eqs, _ => rw [eqs q List.mem_cons_self]
  | q :: q' :: r, _, eqs, nd =>
    have h1 := eqs q List.mem_cons_self
    have h2 := eqs q' (by simp)
    rw [h1, h2] at nd
    have := (List.nodup_cons.mp nd).1
    simp at this
end DW
/-! one set of products for each language; written forms tell products apart -/
namespace DW
open PySem PySem.Spec PyProof.Rows L2 TL
set_option autoImplicit false
theorem len_sum : ∀ (zs : List (List Fc)) (q : List Fc), q ∈ zs → q.length ≤ (zs.map List.length).sum
  | [], _, h => (nomatch h)
  | x :: zs, q, h => by
    rw [List.map_cons, List.sum_cons]
    rcases List.mem_cons.mp h with e | e
    · rw [e]; omega
    · have := len_sum zs q e
      omega
theorem inc_trans {a b c : List Fc} (wa : W1 a) (wc : W1 c) (h1 : inc a b = true) (h2 : inc b c = true) : inc a c = true :=
  (inc_iff wc wa).mpr (inc_sound a b h1 _ (inc_sound b c h2 _ (Lg.unf _ c fun f hf => (wc f hf).2)))
theorem inc_anti {z : Str} (al : Alph z) {a b : List Fc} (ra : Rz z a) (rb : Rz z b) (h1 : inc a b = true) (h2 : inc b a = true) : a = b := by
  rcases inc_size al a b ra.ok rb.ok rb.ap h1 with e | e
  · exact e.symm
  · rcases inc_size al b a rb.ok ra.ok ra.ap h2 with e' | e'
    · exact e'
    · exact absurd (List.lt_trans e.lt e'.lt) (List.lt_irrefl _)
theorem MaxOf.rz {z : Str} {ps zs : List (List Fc)} (M : MaxOf ps zs) (ok : ∀ p ∈ ps, ∀ f ∈ p, FOk z f) : ∀ q ∈ zs, Rz z q := fun q hq => by
  obtain ⟨p, hp, rfl⟩ := M.sub q hq
  exact ⟨fun f hf => ok p hp f (red_mem hf), red_apart p⟩
/-- a product whose words are all in a list of products is inside one of them -/
theorem into_one {z : Str} {q : List Fc} {zs : List (List Fc)} (rq : Rz z q) (rz : ∀ q ∈ zs, Rz z q) (h : ∀ u, Lg q u → hasW zs u = true) : ∃ q' ∈ zs, inc q' q = true := by
  have wq := fok_w1 rq.ok
  have h1 := h _ (Lg.unf ((zs.map List.length).sum + 1) q fun f hf => (wq f hf).2)
  unfold hasW at h1
  obtain ⟨q', hq', hi⟩ := List.any_eq_true.mp h1
  have w' := fok_w1 (rz q' hq').ok
  have l := (acc_iff w' _).mp hi
  exact ⟨q', hq', inc_complete _ q q' wq w' (by have := len_sum zs q' hq'; omega) l⟩
theorem has_of {z : Str} {q : List Fc} {zs : List (List Fc)} (rz : ∀ q ∈ zs, Rz z q) (hq : q ∈ zs) {u : List Nat} (h : Lg q u) : hasW zs u = true := by
  unfold hasW
  exact List.any_eq_true.mpr ⟨q, hq, (acc_iff (fok_w1 (rz q hq).ok) u).mpr h⟩
theorem MaxOf.uniq {z : Str} (al : Alph z) {ps zs ps' zs' : List (List Fc)} (M : MaxOf ps zs) (M' : MaxOf ps' zs') (ok : ∀ p ∈ ps, ∀ f ∈ p, FOk z f) (ok' : ∀ p ∈ ps', ∀ f ∈ p, FOk z f) (h : ∀ u, hasW zs u = hasW zs' u) : ∀ q ∈ zs, q ∈ zs' := fun q hq => by
  have rz := M.rz ok
  have rz' := M'.rz ok'
  obtain ⟨q', hq', i1⟩ := into_one (rz q hq) rz' fun u hu => by rw [← h]; exact has_of rz hq hu
  obtain ⟨q'', hq'', i2⟩ := into_one (rz' q' hq') rz fun u hu => by rw [h]; exact has_of rz' hq' hu
  have i3 := inc_trans (fok_w1 (rz q'' hq'').ok) (fok_w1 (rz q hq).ok) i2 i1
  have e := (M.anti al ok).1 q'' hq'' q hq i3
  rw [← e] at i2
  rw [inc_anti al (rz q hq) (rz' q' hq') i2 i1]
  exact hq'
/-! ### written forms -/
theorem fform_tl (f : Fc) : tl (fform f) = if f.1 = true then 123 :: (tl f.2 ++ [125, 42]) else tl f.2 ++ [63] := by
  unfold fform
  split
  · rw [tl_app2, tl_app2]
    have e1 : tl "{" = [123] := by decide +kernel
    have e2 : tl "}*" = [125, 42] := by decide +kernel
    rw [e1, e2]
    simp
  · rw [tl_app2]
    have e2 : tl "?" = [63] := by decide +kernel
    rw [e2]
theorem app_split : ∀ {a b : List Nat} {x y : List Nat} {c d : Nat}, (∀ k ∈ a, k ≠ c) → (∀ k ∈ b, k ≠ c) → c = d → a ++ c :: x = b ++ d :: y → a = b ∧ x = y
  | [], [], _, _, _, _, _, _, e, h => by
    subst e
    exact ⟨rfl, (List.cons.inj h).2⟩
  | [], k :: b, x, y, c, d, _, hb, e, h => absurd (List.cons.inj h).1.symm (hb k List.mem_cons_self)
  | k :: a, [], x, y, c, d, ha, _, e, h => absurd ((List.cons.inj h).1.trans e.symm) (ha k List.mem_cons_self)
  | k :: a, j :: b, x, y, c, d, ha, hb, e, h => by
    obtain ⟨h1, h2⟩ := List.cons.inj h
    obtain ⟨i1, i2⟩ := app_split (fun k hk => ha k (List.mem_cons_of_mem _ hk)) (fun k hk => hb k (List.mem_cons_of_mem _ hk)) e h2
    exact ⟨by rw [h1, i1], i2⟩
theorem fform_split {z : Str} (al : Alph z) {f g : Fc} (hf : FOk z f) (hg : FOk z g) {x y : List Nat} (h : tl (fform f) ++ x = tl (fform g) ++ y) : f = g ∧ x = y := by
  have low : ∀ {f : Fc}, FOk z f → ∀ c ∈ tl f.2, 97 ≤ c ∧ c ≤ 122 := fun h c hc => al.2.2.2 c (h.2.1.subset hc)
  have lf := low hf
  have lg := low hg
  rw [fform_tl, fform_tl] at h
  obtain ⟨a, s⟩ := f
  obtain ⟨b, t⟩ := g
  simp only at h lf lg
  cases a <;> cases b
  · simp only [Bool.false_eq_true, if_false, List.append_assoc, List.cons_append, List.nil_append] at h
    obtain ⟨e1, e2⟩ := app_split (fun k hk => by have := lf k hk; omega) (fun k hk => by have := lg k hk; omega) rfl h
    exact ⟨by rw [tl_inj e1], e2⟩
  · simp only [Bool.false_eq_true, if_false, if_true, List.append_assoc, List.cons_append, List.nil_append] at h
    cases e : tl s with
    | nil => exact absurd e hf.1
    | cons c r =>
      rw [e] at h
      have h1 := (List.cons.inj h).1
      have := lf c (by rw [e]; exact List.mem_cons_self)
      omega
  · simp only [Bool.false_eq_true, if_false, if_true, List.append_assoc, List.cons_append, List.nil_append] at h
    cases e : tl t with
    | nil => exact absurd e hg.1
    | cons c r =>
      rw [e] at h
      have h1 := (List.cons.inj h).1
      have := lg c (by rw [e]; exact List.mem_cons_self)
      omega
  · simp only [if_true, List.append_assoc, List.cons_append, List.nil_append] at h
    have h1 := (List.cons.inj h).2
    obtain ⟨e1, e2⟩ := app_split (fun k hk => by have := lf k hk; omega) (fun k hk => by have := lg k hk; omega) rfl h1
    exact ⟨by rw [tl_inj e1], (List.cons.inj e2).2⟩
theorem flat_inj {z : Str} (al : Alph z) : ∀ (fs gs : List Fc), (∀ f ∈ fs, FOk z f) → (∀ f ∈ gs, FOk z f) → (fs.map fun f => tl (fform f)).flatten = (gs.map fun f => tl (fform f)).flatten → fs = gs
  | [], [], _, _, _ => rfl
  | [], g :: gs, _, _, h => by
    rw [List.map_cons, List.flatten_cons, List.map_nil, List.flatten_nil, fform_tl] at h
    split at h <;> simp at h
  | f :: fs, [], _, _, h => by
    rw [List.map_cons, List.flatten_cons, List.map_nil, List.flatten_nil, fform_tl] at h
    split at h <;> simp at h
  | f :: fs, g :: gs, hf, hg, h => by
    rw [List.map_cons, List.map_cons, List.flatten_cons, List.flatten_cons] at h
    obtain ⟨e1, e2⟩ := fform_split al (hf f List.mem_cons_self) (hg g List.mem_cons_self) h
    rw [e1, flat_inj al fs gs (fun f h => hf f (List.mem_cons_of_mem _ h)) (fun f h => hg f (List.mem_cons_of_mem _ h)) e2]
theorem pform_tl {fs : List Fc} (h : fs ≠ []) : tl (pform fs) = (fs.map fun f => tl (fform f)).flatten := by
  unfold pform
  rw [if_neg h, tl_cat, List.map_map]
  rfl
theorem pform_nil {z : Str} (al : Alph z) {g : Fc} {gs : List Fc} (hg : FOk z g) : tl (pform []) ≠ tl (pform (g :: gs)) := by
  rw [pform_tl (List.cons_ne_nil _ _), List.map_cons, List.flatten_cons, fform_tl]
  have e : tl (pform []) = [45] := by
    unfold pform
    rw [if_pos rfl]
    decide +kernel
  rw [e]
  split
  · intro h
    have := (List.cons.inj h).1
    omega
  · cases q : tl g.2 with
    | nil => exact absurd q hg.1
    | cons c r =>
      intro h
      have h1 := (List.cons.inj h).1
      have := al.2.2.2 c (hg.2.1.subset (by rw [q]; exact List.mem_cons_self))
      omega
theorem pform_inj {z : Str} (al : Alph z) {fs gs : List Fc} (hf : ∀ f ∈ fs, FOk z f) (hg : ∀ f ∈ gs, FOk z f) (h : tl (pform fs) = tl (pform gs)) : fs = gs := by
  match fs, gs, hf, hg, h with
  | [], [], _, _, _ => rfl
  | [], g :: gs, _, hg, h => exact absurd h (pform_nil al (hg g List.mem_cons_self))
  | f :: fs, [], hf, _, h => exact absurd h.symm (pform_nil al (hf f List.mem_cons_self))
  | f :: fs, g :: gs, hf, hg, h =>
    rw [pform_tl (List.cons_ne_nil _ _), pform_tl (List.cons_ne_nil _ _)] at h
    exact flat_inj al _ _ hf hg h
theorem sorted_uniq {le : List Fc → List Fc → Prop} : ∀ (l m : List (List Fc)), (∀ a ∈ l, ∀ b ∈ l, le a b → le b a → a = b) → l.Pairwise le → m.Pairwise le → l.Nodup → m.Nodup → (∀ x, x ∈ l ↔ x ∈ m) → l = m
  | [], [], _, _, _, _, _, _ => rfl
  | [], b :: m, _, _, _, _, _, h => (nomatch (h b).mpr List.mem_cons_self)
  | a :: l, [], _, _, _, _, _, h => (nomatch (h a).mp List.mem_cons_self)
  | a :: l, b :: m, an, pl, pm, nl, nm, h => by
    have pl' := List.pairwise_cons.mp pl
    have pm' := List.pairwise_cons.mp pm
    have nl' := List.nodup_cons.mp nl
    have nm' := List.nodup_cons.mp nm
    have e : a = b := by
      rcases List.mem_cons.mp ((h a).mp List.mem_cons_self) with q | q
      · exact q
      · rcases List.mem_cons.mp ((h b).mpr List.mem_cons_self) with w | w
        · exact w.symm
        · exact an a List.mem_cons_self b (List.mem_cons_of_mem _ w) (pl'.1 b w) (pm'.1 a q)
    subst e
    rw [sorted_uniq l m (fun x hx y hy => an x (List.mem_cons_of_mem _ hx) y (List.mem_cons_of_mem _ hy)) pl'.2 pm'.2 nl'.2 nm'.2 fun x => ?_]
    constructor
    · intro hx
      rcases List.mem_cons.mp ((h x).mp (List.mem_cons_of_mem _ hx)) with q | q
      · rw [q] at hx; exact absurd hx nl'.1
      · exact q
    · intro hx
      rcases List.mem_cons.mp ((h x).mpr (List.mem_cons_of_mem _ hx)) with q | q
      · rw [q] at hx; exact absurd hx nm'.1
      · exact q
theorem MaxOf.sorted {ps zs : List (List Fc)} (M : MaxOf ps zs) : zs.Pairwise fun x y => tl (pform x) ≤ tl (pform y) := by
  obtain ⟨Gs, gr, rfl⟩ := M
  have p := List.pairwise_mergeSort (le := fun x y : List Fc => decide (tl (pform x) ≤ tl (pform y))) (fun a b c h1 h2 => decide_eq_true (List.le_trans (of_decide_eq_true h1) (of_decide_eq_true h2))) (fun a b => by
    rcases List.le_total (tl (pform a)) (tl (pform b)) with h | h
    · rw [decide_eq_true h]; rfl
    · rw [decide_eq_true h, Bool.or_true]) (pickM (Gs.mergeSort leK))
  exact p.imp fun h => of_decide_eq_true h
/-- one list for each language -/
theorem MaxOf.one {z : Str} (al : Alph z) {ps zs ps' zs' : List (List Fc)} (M : MaxOf ps zs) (M' : MaxOf ps' zs') (ok : ∀ p ∈ ps, ∀ f ∈ p, FOk z f) (ok' : ∀ p ∈ ps', ∀ f ∈ p, FOk z f) (h : ∀ u, hasW zs u = hasW zs' u) : zs = zs' :=
  sorted_uniq zs zs' (fun a ha b hb h1 h2 => pform_inj al (M.rz ok a ha).ok (M.rz ok b hb).ok (List.le_antisymm h1 h2)) M.sorted M'.sorted (M.anti al ok).2 (M'.anti al ok').2 fun q => ⟨M.uniq al M' ok ok' h q, M'.uniq al M ok' ok (fun u => (h u).symm) q⟩
end DW
namespace DW
open PySem PySem.Spec PyProof.Rows L2 TL
set_option autoImplicit false
abbrev sLangAlphabet : Stmt := clsS 31 1
abbrev sLangProducts : Stmt := clsS 31 2
abbrev sLangEmpty : Stmt := clsS 31 4
abbrev sLangFull : Stmt := clsS 31 5
abbrev sLangLetters : Stmt := clsS 31 6
abbrev sLangEq : Stmt := clsS 31 7
abbrev sLangStr : Stmt := clsS 31 8
/-- the class with all its methods -/
structure DfC2 (K : PySem.W.Frag) (mg : Str → Option Value) extends DfC K mg where
  a : DfM K C "alphabet" "Language.alphabet" sLangAlphabet ["self"]
  mta : Meth K C "alphabet" a.f
  p : DfM K C "products" "Language.products" sLangProducts ["self"]
  mtp : Meth K C "products" p.f
  e : DfM K C "is_empty" "Language.is_empty" sLangEmpty ["self"]
  mte : Meth K C "is_empty" e.f
  fu : DfM K C "is_full" "Language.is_full" sLangFull ["self"]
  mtf : Meth K C "is_full" fu.f
  l : DfM K C "letters" "Language.letters" sLangLetters ["self"]
  mtl : Meth K C "letters" l.f
  q : DfM K C "__eq__" "Language.__eq__" sLangEq ["self", "other"]
  mtq : Meth K C "__eq__" q.f
  s : DfM K C "__str__" "Language.__str__" sLangStr ["self"]
  mts : Meth K C "__str__" s.f
def starF (z : Str) : List Fc := if tl z = [] then [] else [(true, z)]
def spStp (K : PySem.W.Frag) : Sp := fun vs H Q _ => ∃ z : Str, vs = [.str z] ∧ ∀ H' v, Same H H' → IsP K H' v (starF z) → Q v H'
def spLaA (K : PySem.W.Frag) (C : Addr) : Sp := fun vs H Q _ => ∃ (p : Addr) (z : Str) (zs : List (List Fc)), vs = [.ref p] ∧ LaAt K C H p z zs ∧ Q (.str z) H
def spLaP (K : PySem.W.Frag) (C : Addr) : Sp := fun vs H Q _ => ∃ (p : Addr) (z : Str) (zs : List (List Fc)), vs = [.ref p] ∧ LaAt K C H p z zs ∧ ∀ H' q ys, Same H H' → H q = none → H' q = some (.lst ys) → IsL K H' ys zs → Q (.ref q) H'
def spLaE (K : PySem.W.Frag) (C : Addr) : Sp := fun vs H Q _ => ∃ (p : Addr) (z : Str) (zs : List (List Fc)), vs = [.ref p] ∧ LaAt K C H p z zs ∧ Q (.bl (decide (zs = []))) H
def spLaF (K : PySem.W.Frag) (C : Addr) : Sp := fun vs H Q _ => ∃ (p : Addr) (z : Str) (zs : List (List Fc)), vs = [.ref p] ∧ LaAt K C H p z zs ∧ Alph z ∧ (∀ q ∈ zs, ∀ f ∈ q, FOk z f) ∧ ∀ H', Same H H' → Q (.bl (decide (zs = [[(true, z)]]))) H'
/-- the letters of factors, ascending -/
def LtOf (fs : List Fc) (r : Str) : Prop := (tl r).Pairwise (· < ·) ∧ ∀ c, c ∈ tl r ↔ ∃ f ∈ fs, c ∈ ls f
def spLof (K : PySem.W.Frag) : Sp := fun vs H Q _ => ∃ (a : Addr) (z : Str) (xs : List V) (fs : List Fc), vs = [.ref a] ∧ SqL K H a xs ∧ IsFs K H xs fs ∧ Alph z ∧ (∀ f ∈ fs, FOk z f) ∧ fs.length ≤ 1000 ∧ ∀ H' r, Same H H' → LtOf fs r → Q (.str r) H'
def spLaL (K : PySem.W.Frag) (C : Addr) : Sp := fun vs H Q _ => ∃ (p : Addr) (z : Str) (zs : List (List Fc)), vs = [.ref p] ∧ LaAt K C H p z zs ∧ Alph z ∧ (∀ q ∈ zs, ∀ f ∈ q, FOk z f) ∧ zs.flatten.length ≤ 1000 ∧ ∀ H' r, Same H H' → LtOf zs.flatten r → Q (.str r) H'
theorem nodup_len {α : Type} [DecidableEq α] : ∀ (l m : List α), l.Nodup → (∀ x ∈ l, x ∈ m) → l.length ≤ m.length
  | [], _, _, _ => Nat.zero_le _
  | a :: l, m, nd, h => by
    obtain ⟨na, nd⟩ := List.nodup_cons.mp nd
    have hm := h a List.mem_cons_self
    have q := nodup_len l (m.erase a) nd fun x hx => (List.mem_erase_of_ne (by intro e; subst e; exact na hx)).mpr (h x (List.mem_cons_of_mem _ hx))
    rw [List.length_erase_of_mem hm] at q
    have := List.length_pos_of_mem hm
    rw [List.length_cons]
    omega
theorem signs_mem {x k : Str} : k ∈ TX.signs x ↔ ∃ c ∈ tl x, k = one c := by
  unfold TX.signs
  rw [List.mem_map]
  exact ⟨fun ⟨c, h, e⟩ => ⟨c, h, e.symm⟩, fun ⟨c, h, e⟩ => ⟨c, h, e.symm⟩⟩
/-- sorted(set(x)) joined -/
theorem set_lets {x : Str} {ls ys : List Str} (nd : ls.Nodup) (mem : ∀ k, k ∈ ls ↔ k ∈ TX.signs x) (pm : ys.Perm ls) (so : sortedS ys = true) :
    (tl (Txt.join "" ys)).Pairwise (· < ·) ∧ (∀ c, c ∈ tl (Txt.join "" ys) ↔ c ∈ tl x) ∧ ∀ y ∈ ys, ∃ c, y = one c := by
  have my : ∀ k, k ∈ ys ↔ k ∈ TX.signs x := fun k => (pm.mem_iff).trans (mem k)
  have h1 : ∀ y ∈ ys, ∃ c, y = one c := fun y hy => by
    obtain ⟨c, _, e⟩ := signs_mem.mp ((my y).mp hy)
    exact ⟨c, e⟩
  obtain ⟨cs, rfl, pw⟩ := sorted_ones ys h1 (pm.nodup_iff.mpr nd) so
  have ej : tl (Txt.join "" (cs.map one)) = cs := by rw [tl_cat, flat_ones]
  refine ⟨by rw [ej]; exact pw, fun c => ?_, h1⟩
  rw [ej]
  constructor
  · intro h
    obtain ⟨d, hd, e⟩ := signs_mem.mp ((my (one c)).mp (List.mem_map.mpr ⟨c, h, rfl⟩))
    have e' : tl (one c) = tl (one d) := congrArg tl e
    rw [tl_one, tl_one] at e'
    rw [(List.cons.inj e').1]
    exact hd
  · intro h
    obtain ⟨d, hd, e⟩ := List.mem_map.mp ((my (one c)).mpr (signs_mem.mpr ⟨c, h, rfl⟩))
    have e' : tl (one d) = tl (one c) := congrArg tl e
    rw [tl_one, tl_one] at e'
    rw [← (List.cons.inj e').1]
    exact hd
section
variable {P : Program} {w : World} {K : PySem.W.Frag} {mg : Str → Option Value} {base : Heap}
theorem IsL.dp {H : Hp} : ∀ {vs : List V} {fs : List (List Fc)}, IsL K H vs fs → DpAll K H vs (fs.map pD)
  | _, _, .nil => .nil
  | _, _, .cons h r => .cons h.dp r.dp
theorem ps_eqv : ∀ fs gs : List (List Fc), PyData.eqvAll (fs.map pD) (gs.map pD) = decide (fs = gs)
  | [], [] => by simp [PyData.eqvAll]
  | [], g :: gs => by simp [PyData.eqvAll]
  | f :: fs, [] => by simp [PyData.eqvAll]
  | f :: fs, g :: gs => by
    simp only [List.map_cons, PyData.eqvAll, pD_eqv, ps_eqv fs gs]
    rw [Bool.eq_iff_iff]
    simp
theorem pl_eqv (fs gs : List (List Fc)) : PyData.eqv (.list (fs.map pD)) (.list (gs.map pD)) = decide (fs = gs) := by
  unfold PyData.eqv
  exact ps_eqv fs gs
theorem IsL.lens {H : Hp} : ∀ {vs : List V} {zs : List (List Fc)}, IsL K H vs zs → ∀ (i : Nat) (v : V), vs[i]? = some v → ∃ q a xs, zs[i]? = some q ∧ v = .ref a ∧ SqT K H a xs ∧ IsFs K H xs q := fun iL i v hv => by
  obtain ⟨q, hq, a, xs, e, h1, h2⟩ := iL.get i v hv
  exact ⟨q, a, xs, hq, e, h1, h2⟩
theorem flat_take (zs : List (List Fc)) {i : Nat} {q : List Fc} (h : zs[i]? = some q) : (zs.take (i + 1)).flatten = (zs.take i).flatten ++ q := by
  rw [List.take_add_one, h, List.flatten_append]
  simp
theorem flat_len (zs : List (List Fc)) (i : Nat) : (zs.take i).flatten.length ≤ zs.flatten.length := by
  have e : zs.flatten = (zs.take i).flatten ++ (zs.drop i).flatten := by rw [← List.flatten_append, List.take_append_drop]
  rw [e, List.length_append]
  omega
theorem upd_lst {H : Hp} {l : Addr} {vs : List V} {o : HO} (hl : H l = some (.lst vs)) (b : Addr) (xs : List V) (h : SqT K H b xs) : SqT K (upd H l o) b xs := by
  rcases h with (h | ⟨v, h⟩) | h
  · exact .inl (.inl ((upd_ne (ne_of h hl (by intro z; cases z))).trans h))
  · exact .inl (.inr ⟨v, (upd_ne (ne_of h hl (by intro z; cases z))).trans h⟩)
  · exact .inr h
end
end DW
set_option maxHeartbeats 0
namespace DW
open PySem PySem.Spec PyProof.Rows L2
def mkD (x : Str) (st : Stmt) : He.DefD := ⟨(x, none), x, x, defArgs st, defBody st, defScope st, [], []⟩
def fn : List He.DefD := [mkD "law" sLaw, mkD "_wall" sWall, mkD "is_ascending" sIsAscending, mkD "is_alphabet" sIsAlphabet, mkD "is_word" sIsWord, mkD "is_factor" sIsFactor, mkD "is_product" sIsProduct, mkD "format_factor" sFormatFactor, mkD "format_product" sFormatProduct, mkD "letters_of" sLettersOf, mkD "swallows" sSwallows, mkD "covers" sCovers, mkD "reduce_product" sReduceProduct, mkD "behind" sBehind, mkD "place_behind" sPlaceBehind, mkD "is_included" sIsIncluded, mkD "subwords_product" sSubwordsProduct, mkD "is_inside" sIsInside, mkD "size_of_product" sSizeOfProduct, mkD "by_written_form" sByWrittenForm, mkD "maximal_products" sMaximalProducts, mkD "format_products" sFormatProducts, mkD "language_of_maximal" sLanguageOfMaximal, mkD "number_of_factors" sNumberOfFactors, mkD "check_factors" sCheckFactors, mkD "rests_behind" sRestsBehind, mkD "derivative" sDerivative, mkD "automaton" sAutomaton, mkD "_law_begin" sBegin, mkD "_law_draw" sDraw, mkD "_law_pick" sPick, mkD "_law_alphabet" sAlpha, mkD "_law_factor" sFactor, mkD "_law_product" sProduct, mkD "_law_products" sLProducts, mkD "_law_place_behind" sLPlaceBehind, mkD "_law_places_behind" sLPlacesBehind, mkD "_law_start" sLStart, mkD "_law_machine" sLMachine, mkD "_law_classes" sLClasses, mkD "_law_smallest" sLSmallest, ⟨("Language", some "__init__"), "__init__", "Language.__init__", defArgs sLangInit, defBody sLangInit, defScope sLangInit, [], []⟩, ⟨("Language", some "contains"), "contains", "Language.contains", defArgs sLangContains, defBody sLangContains, defScope sLangContains, [], []⟩, ⟨("Language", some "alphabet"), "alphabet", "Language.alphabet", defArgs sLangAlphabet, defBody sLangAlphabet, defScope sLangAlphabet, [], []⟩, ⟨("Language", some "products"), "products", "Language.products", defArgs sLangProducts, defBody sLangProducts, defScope sLangProducts, [], []⟩, ⟨("Language", some "is_empty"), "is_empty", "Language.is_empty", defArgs sLangEmpty, defBody sLangEmpty, defScope sLangEmpty, [], []⟩, ⟨("Language", some "is_full"), "is_full", "Language.is_full", defArgs sLangFull, defBody sLangFull, defScope sLangFull, [], []⟩, ⟨("Language", some "letters"), "letters", "Language.letters", defArgs sLangLetters, defBody sLangLetters, defScope sLangLetters, [], []⟩, ⟨("Language", some "__eq__"), "__eq__", "Language.__eq__", defArgs sLangEq, defBody sLangEq, defScope sLangEq, [], []⟩, ⟨("Language", some "__str__"), "__str__", "Language.__str__", defArgs sLangStr, defBody sLangStr, defScope sLangStr, [], []⟩]
def fa : List He.Fa := [.glo "law", .glo "_wall", .glo "is_ascending", .glo "is_alphabet", .glo "is_word", .glo "is_factor", .glo "is_product", .glo "format_factor", .glo "format_product", .glo "letters_of", .glo "swallows", .glo "covers", .glo "reduce_product", .glo "behind", .glo "place_behind", .glo "is_included", .glo "subwords_product", .glo "is_inside", .glo "size_of_product", .glo "by_written_form", .glo "maximal_products", .glo "format_products", .glo "language_of_maximal", .glo "number_of_factors", .glo "check_factors", .glo "rests_behind", .glo "derivative", .glo "automaton", .glo "_law_begin", .glo "_law_draw", .glo "_law_pick", .glo "_law_alphabet", .glo "_law_factor", .glo "_law_product", .glo "_law_products", .glo "_law_place_behind", .glo "_law_places_behind", .glo "_law_start", .glo "_law_machine", .glo "_law_classes", .glo "_law_smallest", .free "all", .free "zip", .free "isinstance", .free "str", .free "len", .free "tuple", .free "sorted", .free "set", .free "reversed", .free "range", .free "list", .free "sum", .free "int", .free "dict", .free "repr", .free "enumerate", .int "MOST_LETTERS" 3, .int "COUNTING_LIMIT" 24, .str "EMPTY_FORM" "-", .str "NO_WORDS" "none", .glo "Language", .cls "Language", .noat "Language" "base", .noat "Language" "maximal", .mkr "Language", .meth "Language" "contains", .meth "Language" "alphabet", .meth "Language" "products", .meth "Language" "is_empty", .meth "Language" "is_full", .meth "Language" "letters", .meth "Language" "__eq__", .meth "Language" "__str__"]
abbrev R : PySem.W.OpenRow := PySem.W.OpenLaw.row PySem.Challenge.rw_downwords_k43_smallest_automata
abbrev hk : PySem.W.Hook := He.hookD 4 fa fn
def ob (s : PySem.W.SharedT) : He.AlD := He.obsDG 4 fa fn (HandSHeadRun.getT s)
theorem ob_eq (s : PySem.W.SharedT) : ob s = hk.obs s.abs := He.obsDG_eq (HandSHeadRun.getT_eq s)
abbrev names : List Str := "__name__" :: "DownwordsError" :: "InvalidAlphabet" :: "InvalidProduct" :: "TooLarge" :: "Language" :: "MOST_LETTERS" :: "COUNTING_LIMIT" :: "EMPTY_FORM" :: "NO_WORDS" :: "_wall" :: "is_ascending" :: "is_alphabet" :: "is_word" :: "is_factor" :: "is_product" :: "format_factor" :: "format_product" :: "letters_of" :: "swallows" :: "covers" :: "reduce_product" :: "behind" :: "place_behind" :: "is_included" :: "subwords_product" :: "is_inside" :: "size_of_product" :: "by_written_form" :: "maximal_products" :: "format_products" :: "language_of_maximal" :: "number_of_factors" :: "check_factors" :: "rests_behind" :: "derivative" :: "automaton" :: "_law_begin" :: "_law_draw" :: "_law_pick" :: "_law_alphabet" :: "_law_factor" :: "_law_product" :: "_law_products" :: "_law_place_behind" :: "_law_places_behind" :: "_law_start" :: "_law_machine" :: "_law_classes" :: "_law_smallest" :: []
theorem run (w : World) : HandSHeadRun.RunEq R (PySem.W.view R.prog [56]) hk ob 4000 names w := by
  intro os
  kernel_rfl
end DW
set_option maxHeartbeats 4000000
namespace DW
open PySem PySem.Spec PyProof.Rows L2 TL
set_option autoImplicit false
section
variable {P : Program} {w : World} {K : PySem.W.Frag} {mg : Str → Option Value} {base : Heap}
theorem scLaA : FnScope ["self"] ["self"] (defScope sLangAlphabet) := ⟨rfl, rfl, rfl, by decide +kernel, rfl, by decide +kernel, by decide +kernel⟩
theorem ok_laA (D : DfC2 K mg) : FnOk P w K mg base CX0 1 D.a.f D.a.fd ["self"] (spLaA K D.C) := by
  refine D.a.F.ok scLaA (fun vs H Q E h => ?_) (fun cdv A outer s H vs Q E hr h => ?_)
  · obtain ⟨p, z, zs, rfl, _⟩ := h
    rfl
  · obtain ⟨p, z, zs, rfl, ⟨dx, q, ys, h1, h2, h3⟩, k⟩ := h
    refine ⟨_, (pss_one (ps_ret (pe_fld (pv 0) rfl))), ?_⟩
    exact ⟨.ref p, rfl, p, D.C, dx, _, _, rfl, h1, D.cl, D.nB, flL_base _ _, k⟩
end
end DW
namespace DW
open PySem PySem.Spec PyProof.Rows L2 TL
set_option autoImplicit false
section
variable {P : Program} {w : World} {K : PySem.W.Frag} {mg : Str → Option Value} {base : Heap}
theorem scLaP : FnScope ["self"] ["self"] (defScope sLangProducts) := ⟨rfl, rfl, rfl, by decide +kernel, rfl, by decide +kernel, by decide +kernel⟩
theorem ok_laP (D : DfC2 K mg) (ml : mg "list" = none) : FnOk P w K mg base CX0 1 D.p.f D.p.fd ["self"] (spLaP K D.C) := by
  refine D.p.F.ok scLaP (fun vs H Q E h => ?_) (fun cdv A outer s H vs Q E hr h => ?_)
  · obtain ⟨p, z, zs, rfl, _⟩ := h
    rfl
  · obtain ⟨p, z, zs, rfl, ⟨dx, q, ys, h1, h2, h3⟩, k⟩ := h
    refine ⟨_, (pss_one (ps_ret (pe_callTy call_list_of (by rfl) ml (by decide +kernel) (pa_cons (pe_fld (pv 0) rfl) pa_nil)))), ?_⟩
    exact ⟨.ref p, rfl, p, D.C, dx, _, _, rfl, h1, D.cl, D.nM, flL_max _ _, q, ys, rfl, .inl (SqL.of h2), fun l hl => k _ l ys (same_upd hl) hl upd_same (h3.mono (same_tup (same_upd hl)))⟩
end
end DW
namespace DW
open PySem PySem.Spec PyProof.Rows L2 TL
set_option autoImplicit false
section
variable {P : Program} {w : World} {K : PySem.W.Frag} {mg : Str → Option Value} {base : Heap}
theorem scLaE : FnScope ["self"] ["self"] (defScope sLangEmpty) := ⟨rfl, rfl, rfl, by decide +kernel, rfl, by decide +kernel, by decide +kernel⟩
theorem ok_laE (D : DfC2 K mg) (ml : mg "len" = none) : FnOk P w K mg base CX0 1 D.e.f D.e.fd ["self"] (spLaE K D.C) := by
  refine D.e.F.ok scLaE (fun vs H Q E h => ?_) (fun cdv A outer s H vs Q E hr h => ?_)
  · obtain ⟨p, z, zs, rfl, _⟩ := h
    rfl
  · obtain ⟨p, z, zs, rfl, ⟨dx, q, ys, h1, h2, h3⟩, k⟩ := h
    refine ⟨_, (pss_one (ps_ret (pe_cmpR op_eq (pe_callB call_len_seq (by rfl) ml PySem.boot_len (pa_cons (pe_fld (pv 0) rfl) pa_nil)) pe_int (nomark _)))), ?_⟩
    refine ⟨.ref p, rfl, p, D.C, dx, _, _, rfl, h1, D.cl, D.nM, flL_max _ _, q, ys, rfl, .inl (SqL.of h2), rfl, ?_⟩
    have e : decide (V.int (ys.length : Int) = V.int 0) = decide (zs = []) := by
      rw [Bool.eq_iff_iff, decide_eq_true_eq, decide_eq_true_eq, h3.len]
      constructor
      · intro e
        have := V.int.inj e
        exact List.length_eq_zero_iff.mp (by omega)
      · intro e
        rw [e]
        rfl
    rw [e]
    exact k
end
end DW
namespace DW
open PySem PySem.Spec PyProof.Rows L2 TL
set_option autoImplicit false
/-- the class, asked by isinstance, == and != -/
structure DfC3 (K : PySem.W.Frag) (mg : Str → Option Value) extends DfC2 K mg where
  ow : EX.OwnC K C
  kLi : EX.KtyF K "list" C
  kSt : EX.KtyF K "str" C
  kIn : EX.KtyF K "int" C
  kNo : EX.KtyF K "NoneType" C
def lform (zs : List (List Fc)) : Str := if zs = [] then "none" else Txt.join " + " (zs.map pform)
def lstr (z : Str) (zs : List (List Fc)) : Str := Str.empty ++ z ++ (": " : Str) ++ lform zs
def spFps (K : PySem.W.Frag) : Sp := fun vs H Q _ => ∃ (a : Addr) (z : Str) (xs : List V) (zs : List (List Fc)), vs = [.ref a] ∧ SqL K H a xs ∧ IsL K H xs zs ∧ Alph z ∧ (∀ q ∈ zs, ∀ f ∈ q, FOk z f) ∧ zs.flatten.length ≤ 100000 ∧ zs.length ≤ 10000 ∧ (∀ q ∈ zs, q.length ≤ 10000) ∧ ∀ H', Same H H' → Q (.str (lform zs)) H'
def spLaS (K : PySem.W.Frag) (C : Addr) : Sp := fun vs H Q _ => ∃ (p : Addr) (z : Str) (zs : List (List Fc)), vs = [.ref p] ∧ LaAt K C H p z zs ∧ Alph z ∧ (∀ q ∈ zs, ∀ f ∈ q, FOk z f) ∧ zs.flatten.length ≤ 100000 ∧ zs.length ≤ 10000 ∧ (∀ q ∈ zs, q.length ≤ 10000) ∧ ∀ H', Same H H' → Q (.str (lstr z zs)) H'
def spLaQ (K : PySem.W.Frag) (C : Addr) : Sp := fun vs H Q _ => ∃ (p : Addr) (y : V) (z : Str) (zs : List (List Fc)), vs = [.ref p, y] ∧ LaAt K C H p z zs ∧ Alph z ∧ (∀ q ∈ zs, ∀ f ∈ q, FOk z f) ∧
  ((∃ (p' : Addr) (z' : Str) (zs' : List (List Fc)), y = .ref p' ∧ LaAt K C H p' z' zs' ∧ Alph z' ∧ (∀ q ∈ zs', ∀ f ∈ q, FOk z' f) ∧ Q (.bl (decide (z = z') && decide (zs = zs'))) H) ∨
   (∃ t, TyX K H y t ∧ PySem.W.kitOne K t (.ref C) = some false ∧ Q (.bl false) H))
theorem fform_len6 {z : Str} (al : Alph z) {f : Fc} (h : FOk z f) : (fform f).length ≤ 6 := by
  have e : ∀ y : Str, y.length = (tl y).length := fun y => (Array.length_toList).symm
  have h3 : (tl f.2).length ≤ 3 := fok_len al h
  unfold fform
  split
  · rw [e, tl_app2, tl_app2, List.length_append, List.length_append]
    have e1 : (tl "{").length = 1 := by decide +kernel
    have e2 : (tl "}*").length = 2 := by decide +kernel
    omega
  · rw [e, tl_app2, List.length_append]
    have e2 : (tl "?").length = 1 := by decide +kernel
    omega
theorem pform_len {z : Str} (al : Alph z) {q : List Fc} (h : ∀ f ∈ q, FOk z f) : (pform q).length ≤ 6 * q.length + 1 := by
  have e : ∀ y : Str, y.length = (tl y).length := fun y => (Array.length_toList).symm
  unfold pform
  split
  · have : ("-" : Str).length = 1 := by decide +kernel
    omega
  · rw [e, tl_cat, List.map_map]
    have b : ∀ gs : List Fc, (∀ f ∈ gs, FOk z f) → ((gs.map (tl ∘ fform)).flatten).length ≤ 6 * gs.length := by
      intro gs
      induction gs with
      | nil => intro _; exact Nat.le_refl _
      | cons g gs ih =>
        intro hg
        have h1 := fform_len6 al (hg g List.mem_cons_self)
        have h2 := ih fun f hf => hg f (List.mem_cons_of_mem _ hf)
        rw [e] at h1
        rw [List.map_cons, List.flatten_cons, List.length_append, List.length_cons]
        have h3 : ((tl ∘ fform) g).length ≤ 6 := h1
        omega
    have := b q h
    omega
theorem pforms_len {z : Str} (al : Alph z) : ∀ zs : List (List Fc), (∀ q ∈ zs, ∀ f ∈ q, FOk z f) → ((zs.map pform).map (·.length)).sum ≤ 6 * zs.flatten.length + zs.length
  | [], _ => Nat.le_refl _
  | q :: zs, h => by
    have h1 := pform_len al (h q List.mem_cons_self)
    have h2 := pforms_len al zs fun r hr => h r (List.mem_cons_of_mem _ hr)
    rw [List.map_cons, List.map_cons, List.sum_cons, List.flatten_cons, List.length_append, List.length_cons]
    omega
theorem joinL_len (S : List Nat) : ∀ xs : List (List Nat), (joinL S xs).length ≤ (xs.map List.length).sum + xs.length * S.length
  | [] => Nat.zero_le _
  | [p] => by
    show p.length ≤ p.length + 0 + 1 * S.length
    omega
  | p :: q :: r => by
    have ih := joinL_len S (q :: r)
    rw [joinL, List.length_append, List.length_append, List.map_cons, List.sum_cons, List.length_cons, Nat.succ_mul]
    omega
theorem tl_joinS (sep : Str) (xs : List Str) : tl (Txt.join sep xs) = joinL (tl sep) (xs.map tl) := by
  have e : tl (Str.join sep xs) = joinL (tl sep) (xs.map tl) := tl_join sep xs
  rw [join_eq, e]
theorem lform_len {z : Str} (al : Alph z) {zs : List (List Fc)} (ok : ∀ q ∈ zs, ∀ f ∈ q, FOk z f) : (lform zs).length ≤ 6 * zs.flatten.length + 4 * zs.length + 4 := by
  have e : ∀ y : Str, y.length = (tl y).length := fun y => (Array.length_toList).symm
  unfold lform
  split
  · have : ("none" : Str).length = 4 := by decide +kernel
    omega
  · rw [e, tl_joinS]
    have h1 := joinL_len (tl " + ") ((zs.map pform).map tl)
    have h2 := pforms_len al zs ok
    have e3 : (tl " + ").length = 3 := by decide +kernel
    have e4 : (((zs.map pform).map tl).map List.length) = (zs.map pform).map (·.length) := by
      rw [List.map_map]
      exact List.map_congr_left fun y _ => (e y).symm
    rw [e4, e3, List.length_map, List.length_map] at h1
    omega
section
variable {P : Program} {w : World} {K : PySem.W.Frag} {mg : Str → Option Value} {base : Heap}
/-- what format_products needs -/
structure DfFps (K : PySem.W.Frag) (mg : Str → Option Value) where
  s : Df K mg "format_products" sFormatProducts ["products"]
  p : Df K mg "format_product" sFormatProduct ["product"]
  f : Df K mg "format_factor" sFormatFactor ["factor"]
  ml : mg "len" = none
  me : ∃ t, mg "EMPTY_FORM" = some (.str "-" t)
  mn : ∃ t, mg "NO_WORDS" = some (.str "none" t)
end
end DW
namespace DW
open PySem PySem.Spec PyProof.Rows L2 TL
set_option autoImplicit false
section
variable {P : Program} {w : World} {K : PySem.W.Frag} {mg : Str → Option Value} {base : Heap}
theorem scFps : FnScope ["products", "product"] ["products"] (defScope sFormatProducts) := ⟨rfl, rfl, rfl, by decide +kernel, rfl, by decide +kernel, by decide +kernel⟩
theorem ok_fps (D : DfFps K mg) : FnOk P w K mg base CX0 3 D.s.f D.s.fd ["products"] (spFps K) := by
  have Gf : FnOk P w K mg base CX0 2 D.p.f D.p.fd ["product"] (spFp K) := ok_fp D.p D.f D.ml D.me
  have me : ∃ u, mg "NO_WORDS" = some u ∧ RelV (.str "none") u := by
    obtain ⟨t, e⟩ := D.mn
    exact ⟨_, e, t, rfl⟩
  refine D.s.F.ok scFps (fun vs H Q E h => ?_) (fun cdv A outer s H vs Q E hr h => ?_)
  · obtain ⟨a, z, xs, zs, rfl, _⟩ := h
    rfl
  · obtain ⟨a, z, xs, zs, rfl, ha, iL, al, ok, fl, zl, ql, k⟩ := h
    have xl := iL.len
    refine ⟨_, (pss_cons (ps_if (pt_cmpR op_eq (pe_callB call_len_seq (by rfl) D.ml PySem.boot_len (pa_cons (pv 0) pa_nil)) pe_int (nomark _)) (pss_one (ps_ret (C8.pe_gc (by rfl) me))) pss_nil) (pss_one (ps_ret (pe_join pe_str (pe_lc (own := [("product", 1)]) (g := gName 1) rfl scFps.nd (pi_list (pv 0)) (blkOk_by (N := ["products", "product"]) (sc := defScope sFormatProducts) (by decide +kernel)) (fun _ _ _ _ _ => pg_name (i := 1) scFps.nd rfl (Or.inl rfl)) (fun _ _ _ _ _ => pts_nil) (fun _ _ _ _ _ => (pe_call Gf hr (by rfl) D.p.g D.p.F.kp D.p.b .nil pass0 (pa_cons (pv 1) pa_nil)))))))), ?_⟩
    refine ⟨.ref a, rfl, a, xs, rfl, .inl ha, rfl, _, rfl, ?_⟩
    refine ite2 (fun e => ?_) (fun e => ?_)
    · have e' : zs = [] := by
        have := V.int.inj (of_decide_eq_true e)
        exact List.length_eq_zero_iff.mp (by omega)
      have q := k _ (Same.refl _)
      unfold lform at q
      rw [if_pos e'] at q
      exact q
    · have ne : zs ≠ [] := fun z => e (decide_eq_true (by rw [xl, z]; rfl))
      refine ⟨⟨_, rfl⟩, .ref a, rfl, a, rfl, ⟨_, ha⟩, fun L hL => ?_⟩
      refine lc_it (walk_list (xs := xs)) (fun i H' => H' L = some (.lst (((zs.take i).map pform).map V.str)) ∧ Same H H') ⟨upd_same, same_upd hL⟩ (fun _ _ _ ⟨_, sm⟩ => same_lst sm ha) ?_ ?_
      · rintro i x G G' hi ⟨gL, sm⟩ ⟨rfl, hx⟩
        obtain ⟨q, hq, isq⟩ := iL.get i x hx
        have qm := List.mem_of_getElem? hq
        refine ⟨rfl, yes ⟨x, rfl, x, q, rfl, isq.mono (same_tup sm), fun f hf => Nat.le_trans (fok_len al (ok q qm f hf)) (by decide), ql q qm, fun H2 s2 => ?_⟩⟩
        refine ⟨_, s2 _ _ gL, ?_, ?_, fun b o e => (upd_ne (ne_of_none e hL)).trans ((sm.trans s2) _ _ e)⟩
        · rw [List.length_map, List.length_map, List.length_take, sizeLine_eq]
          omega
        · rw [upd_same, List.take_add_one, hq, List.map_append, List.map_append]
          rfl
      · rintro G ⟨gL, sm⟩
        rw [xl, List.take_length] at gL
        refine ⟨" + ", L, zs.map pform, rfl, rfl, .inl (SqL.of gL), ?_, ?_⟩
        · have b := pforms_len al zs ok
          have e0 : (" + " : Str).length = 3 := by decide +kernel
          rw [e0, List.length_map]
          omega
        · have q := k _ sm
          unfold lform at q
          rw [if_neg ne] at q
          exact q
theorem scLaS : FnScope ["self"] ["self"] (defScope sLangStr) := ⟨rfl, rfl, rfl, by decide +kernel, rfl, by decide +kernel, by decide +kernel⟩
theorem ok_laS (D : DfC2 K mg) (Df : DfFps K mg) : FnOk P w K mg base CX0 4 D.s.f D.s.fd ["self"] (spLaS K D.C) := by
  have Gs : FnOk P w K mg base CX0 3 Df.s.f Df.s.fd ["products"] (spFps K) := ok_fps Df
  refine D.s.F.ok scLaS (fun vs H Q E h => ?_) (fun cdv A outer s H vs Q E hr h => ?_)
  · obtain ⟨p, z, zs, rfl, _⟩ := h
    rfl
  · obtain ⟨p, z, zs, rfl, ⟨dx, q, ys, h1, h2, h3⟩, al, ok, fl, zl, ql, k⟩ := h
    have sz : ∀ y : Str, y.length = (tl y).length := fun y => (Array.length_toList).symm
    have z3 := al.2.2.1
    refine ⟨_, (pss_one (ps_ret (pe_joined (.cons (pe_fmt (pe_fld (pv 0) rfl)) (.cons pe_str (.cons (pe_fmt (pe_call Gs hr (by rfl) Df.s.g Df.s.F.kp Df.s.b .nil pass0 (pa_cons (pe_fld (pv 0) rfl) pa_nil))) .nil)))))), ?_⟩
    refine ⟨.ref p, rfl, p, D.C, dx, _, _, rfl, h1, D.cl, D.nB, flL_base _ _, .inl ⟨z, rfl, by rw [sz, sizeLine_eq]; omega, z, rfl, ?_, (": " : Str), rfl, ?_, .ref p, rfl, p, D.C, dx, _, _, rfl, h1, D.cl, D.nM, flL_max _ _, q, z, ys, zs, rfl, SqL.of h2, h3, al, ok, fl, zl, ql, fun H1 s1 => .inl ⟨lform zs, rfl, ?_, lform zs, rfl, ?_, ?_⟩⟩⟩
    all_goals have lf := lform_len al ok
    all_goals have l2 : (": " : Str).length = 2 := by decide +kernel
    all_goals have lz : z.length ≤ 3 := by rw [sz]; exact z3
    · rw [EX.app_len, sizeLine_eq]
      show 0 + _ ≤ _
      omega
    · rw [EX.app_len, EX.app_len, sizeLine_eq]
      show 0 + _ + _ ≤ _
      omega
    · rw [sizeLine_eq]
      omega
    · rw [EX.app_len, EX.app_len, EX.app_len, sizeLine_eq]
      show 0 + _ + _ + _ ≤ _
      omega
    · exact k _ s1
end
end DW
/-! the law's own look at a list of products; when all words are in one -/
namespace DW
open PySem PySem.Spec PyProof.Rows L2 TL
set_option autoImplicit false
/-! ### a word that only the star of all letters takes -/
theorem rep_get {b : List Nat} (hb : 0 < b.length) : ∀ (k i : Nat), i < k * b.length → (List.replicate k b).flatten[i]? = b[i % b.length]?
  | 0, i, h => by omega
  | k + 1, i, h => by
    rw [List.replicate_succ, List.flatten_cons]
    by_cases c : i < b.length
    · rw [List.getElem?_append_left c, Nat.mod_eq_of_lt c]
    · rw [List.getElem?_append_right (by omega), rep_get hb k (i - b.length) (by rw [Nat.succ_mul] at h; omega)]
      rw [Nat.mod_eq_sub_mod (by omega : i ≥ b.length)]
theorem rep_win {b : List Nat} {k : Nat} {u v t : List Nat} (h : (List.replicate k b).flatten = u ++ v ++ t) (hl : b.length ≤ v.length) : ∀ c ∈ b, c ∈ v := fun c hc => by
  obtain ⟨j, hj, e⟩ := List.getElem_of_mem hc
  have hb : 0 < b.length := by omega
  have hlen : k * b.length = u.length + v.length + t.length := by
    have q := congrArg List.length h
    rw [List.length_flatten, List.map_replicate, List.sum_replicate_nat, List.length_append, List.length_append] at q
    exact q
  -- the first place from |u| on that is j by the length
  have hx : ∃ i, u.length ≤ i ∧ i < u.length + b.length ∧ i % b.length = j := by
    have hm := Nat.mod_lt u.length hb
    by_cases q : u.length % b.length ≤ j
    · refine ⟨u.length + (j - u.length % b.length), by omega, by omega, ?_⟩
      have e1 : u.length + (j - u.length % b.length) = b.length * (u.length / b.length) + j := by
        have := Nat.div_add_mod u.length b.length
        omega
      rw [e1, Nat.mul_add_mod, Nat.mod_eq_of_lt hj]
    · refine ⟨u.length + (j + b.length - u.length % b.length), by omega, by omega, ?_⟩
      have e1 : u.length + (j + b.length - u.length % b.length) = b.length * (u.length / b.length + 1) + j := by
        have := Nat.div_add_mod u.length b.length
        rw [Nat.mul_add]
        omega
      rw [e1, Nat.mul_add_mod, Nat.mod_eq_of_lt hj]
  obtain ⟨i, i1, i2, i3⟩ := hx
  have g := rep_get hb k i (by omega)
  rw [i3, List.getElem?_eq_getElem hj, e, h, List.append_assoc, List.getElem?_append_right i1, List.getElem?_append_left (by omega)] at g
  exact List.mem_of_getElem? g
theorem alph_nd {z : Str} (al : Alph z) : (tl z).Nodup := al.1.imp fun h e => by omega
theorem win_bound {z : Str} (al : Alph z) {n : Nat} (hn : 2 ≤ n) : ∀ (p : List Fc) (w : List Nat), (∀ f ∈ p, FOk z f) → (true, z) ∉ p → (∀ u v t, w = u ++ v ++ t → n ≤ v.length → ∀ c ∈ tl z, c ∈ v) → Lg p w → w.length ≤ (n - 1) * p.length
  | [], w, _, _, _, h => by
    rw [Lg.of_nil h]
    exact Nat.zero_le _
  | f :: p, w, ok, no, hw, h => by
    obtain ⟨u, v, rfl, hu, hv⟩ := Lg.split (fs := [f]) (gs := p) h
    have ih := win_bound al hn p v (fun g hg => ok g (List.mem_cons_of_mem _ hg)) (fun q => no (List.mem_cons_of_mem _ q)) (fun a b t e hb c hc => hw (u ++ a) b t (by rw [e]; simp) hb c hc) hv
    have hul : u.length ≤ n - 1 := by
      cases k : f.1 with
      | false =>
        rcases Lg.one_opt k hu with e | ⟨c, _, e⟩
        · rw [e]
          exact Nat.zero_le _
        · rw [e]
          show 1 ≤ _
          omega
      | true =>
        by_cases q : n ≤ u.length
        · have all := hw [] u v rfl q
          have m := (Lg.one_star k).mp hu
          have okf := ok f List.mem_cons_self
          have l1 := nodup_len (tl z) (ls f) (alph_nd al) fun c hc => m c (all c hc)
          have l2 := okf.2.1.length_le
          have e := star_of okf k (Nat.le_antisymm l2 l1)
          exact absurd (by rw [← e]; exact List.mem_cons_self) no
        · omega
    rw [List.length_append, List.length_cons, Nat.mul_succ]
    omega
/-- seven times there and back -/
def fullW (z : Str) : List Nat := (List.replicate 7 (tl z ++ (tl z).reverse)).flatten
theorem full_in {z : Str} (al : Alph z) {p : List Fc} (ok : ∀ f ∈ p, FOk z f) (pl : p.length ≤ 6) (h : Lg p (fullW z)) : (true, z) ∈ p := by
  refine Classical.byContradiction fun no => ?_
  have z1 := al.2.1
  have bl : (tl z ++ (tl z).reverse).length = 2 * (tl z).length := by rw [List.length_append, List.length_reverse]; omega
  have b := win_bound al (n := 2 * (tl z).length) (by omega) p _ ok no (fun u v t e hv c hc => rep_win e (by rw [bl]; exact hv) c (List.mem_append_left _ hc)) h
  have hl : (fullW z).length = 7 * (2 * (tl z).length) := by
    unfold fullW
    rw [List.length_flatten, List.map_replicate, List.sum_replicate_nat, bl]
  have b : (fullW z).length ≤ _ := b
  rw [hl] at b
  have : (2 * (tl z).length - 1) * p.length ≤ (2 * (tl z).length - 1) * 6 := Nat.mul_le_mul (Nat.le_refl _) pl
  omega
theorem over_star {z : Str} : ∀ {p : List Fc}, (true, z) ∈ p → ∀ w : List Nat, (∀ c ∈ w, c ∈ tl z) → Lg p w
  | f :: p, h, w, hw => by
    rcases List.mem_cons.mp h with e | e
    · subst e
      have h1 : Lg [((true, z) : Fc)] w := (Lg.one_star rfl).mpr hw
      have h2 := Lg.app h1 (Lg.empty p)
      rw [List.append_nil] at h2
      exact h2
    · exact .skip (over_star e w hw)
theorem MaxOf.isFull {z : Str} (al : Alph z) {ps zs : List (List Fc)} (M : MaxOf ps zs) (ok : ∀ p ∈ ps, ∀ f ∈ p, FOk z f) (pl : ∀ p ∈ ps, p.length ≤ 6) : zs = [[(true, z)]] ↔ ∃ p ∈ ps, Lg p (fullW z) := by
  have wp : ∀ p ∈ ps, W1 p := fun p hp => fok_w1 (ok p hp)
  have over : ∀ c ∈ fullW z, c ∈ tl z := fun c hc => by
    obtain ⟨l, hl, hc⟩ := List.mem_flatten.mp hc
    rw [List.eq_of_mem_replicate hl] at hc
    rcases List.mem_append.mp hc with q | q
    · exact q
    · exact List.mem_reverse.mp q
  constructor
  · intro e
    refine (M.has wp _).mp ?_
    rw [e]
    unfold hasW
    rw [List.any_cons, List.any_nil, Bool.or_false]
    refine (acc_iff (fun f hf => ?_) _).mpr (over_star List.mem_cons_self _ over)
    rw [List.mem_singleton.mp hf]
    exact ⟨alph_ne al, fun e => by cases e⟩
  · rintro ⟨p, hp, h⟩
    have h1 := full_in al (ok p hp) (pl p hp) h
    refine M.full al ok hp ?_
    have wz : W1 [((true, z) : Fc)] := fun f hf => by
      rw [List.mem_singleton.mp hf]
      exact ⟨alph_ne al, fun e => by cases e⟩
    refine (inc_iff wz (red_w1 (wp p hp))).mpr ?_
    refine (red_lg p _).mp (over_star h1 _ fun c hc => ?_)
    unfold unf at hc
    obtain ⟨l, hl, hc⟩ := List.mem_flatten.mp hc
    obtain ⟨f, hf, rfl⟩ := List.mem_map.mp hl
    rw [List.mem_singleton.mp hf] at hc
    unfold piece at hc
    rw [if_pos rfl] at hc
    obtain ⟨l, hl, hc⟩ := List.mem_flatten.mp hc
    rw [List.eq_of_mem_replicate hl] at hc
    exact hc
/-! ### the law's own look -/
end DW
/-! lists of maximal products: what laws of operations want -/
namespace DW
open PySem PySem.Spec PyProof.Rows L2 TL
set_option autoImplicit false
theorem MaxOf.few {z : Str} (al : Alph z) {ps zs : List (List Fc)} (M : MaxOf ps zs) (ok : ∀ p ∈ ps, ∀ f ∈ p, FOk z f) : zs.length ≤ ps.length := by
  have q := nodup_len zs (ps.map red) (M.anti al ok).2 fun x hx => by
    obtain ⟨p, hp, e⟩ := M.sub x hx
    rw [e]
    exact List.mem_map_of_mem hp
  rw [List.length_map] at q
  exact q
theorem MaxOf.short {ps zs : List (List Fc)} (M : MaxOf ps zs) {n : Nat} (h : ∀ p ∈ ps, p.length ≤ n) : ∀ q ∈ zs, q.length ≤ n := fun q hq => by
  obtain ⟨p, hp, e⟩ := M.sub q hq
  rw [e]
  exact Nat.le_trans (red_le p) (h p hp)
theorem hasW_iff {zs : List (List Fc)} (wz : ∀ q ∈ zs, W1 q) (u : List Nat) : hasW zs u = true ↔ ∃ q ∈ zs, Lg q u := by
  unfold hasW
  rw [List.any_eq_true]
  constructor
  · rintro ⟨q, hq, h⟩
    exact ⟨q, hq, (acc_iff (wz q hq) u).mp h⟩
  · rintro ⟨q, hq, h⟩
    exact ⟨q, hq, (acc_iff (wz q hq) u).mpr h⟩
theorem ex_app {ps qs : List (List Fc)} {u : List Nat} : (∃ p ∈ ps ++ qs, Lg p u) ↔ (∃ p ∈ ps, Lg p u) ∨ ∃ p ∈ qs, Lg p u := by
  constructor
  · rintro ⟨p, hp, h⟩
    rcases List.mem_append.mp hp with e | e
    · exact .inl ⟨p, e, h⟩
    · exact .inr ⟨p, e, h⟩
  · rintro (⟨p, hp, h⟩ | ⟨p, hp, h⟩)
    · exact ⟨p, List.mem_append_left _ hp, h⟩
    · exact ⟨p, List.mem_append_right _ hp, h⟩
theorem nf_self {K : PySem.W.Frag} {C : Addr} : PySem.W.notFirst K C (.ref C) = true := by
  unfold PySem.W.notFirst
  simp
end DW
namespace DW
open PySem PySem.Spec PyProof.Rows L2 TL
set_option autoImplicit false
/-- the list that stands for a language -/
structure Can (z : Str) (zs : List (List Fc)) : Prop where
  rz : ∀ q ∈ zs, Rz z q
  an : Anti zs
  nd : zs.Nodup
  so : zs.Pairwise fun x y => tl (pform x) ≤ tl (pform y)
theorem MaxOf.can {z : Str} (al : Alph z) {ps zs : List (List Fc)} (M : MaxOf ps zs) (ok : ∀ p ∈ ps, ∀ f ∈ p, FOk z f) : Can z zs := ⟨M.rz ok, (M.anti al ok).1, (M.anti al ok).2, M.sorted⟩
end DW
namespace DW
open PySem PySem.Spec PyProof.Rows L2 TL
set_option autoImplicit false
theorem inc_lang {p q : List Fc} (wp : W1 p) (wq : W1 q) : inc q p = true ↔ ∀ u, Lg p u → Lg q u :=
  ⟨fun h u => inc_sound q p h u, fun h => inc_complete (q.length + 1) p q wp wq (by omega) (h _ (Lg.unf _ p fun f hf => (wp f hf).2))⟩
/-! ### derivatives -/
theorem cov_ch {g : Fc} (h : ls g ≠ [] ∧ (g.1 = false → (ls g).length = 1)) (c : Nat) : cov g (false, one c) = true ↔ c ∈ ls g := by
  unfold cov
  rw [Bool.or_eq_true, decide_eq_true_eq]
  constructor
  · rintro (e | e)
    · subst e
      exact List.mem_singleton.mpr rfl
    · exact sw_sub e c (List.mem_singleton.mpr rfl)
  · intro m
    by_cases k : g.1 = true
    · exact .inr (sw_of k fun d hd => by rw [List.mem_singleton.mp hd]; exact m)
    · have k : g.1 = false := by simpa using k
      left
      have l1 := h.2 k
      obtain ⟨x, hx⟩ := List.length_eq_one_iff.mp l1
      rw [hx] at m
      have : g.2 = one c := tl_inj (by rw [show tl g.2 = [x] from hx, tl_one, List.mem_singleton.mp m])
      exact Prod.ext k this
theorem lg_star {g : Fc} {q : List Fc} {c : Nat} {x : List Nat} (k : g.1 = true) (m : c ∈ ls g) : Lg (g :: q) (c :: x) ↔ Lg (g :: q) x := ⟨Lg.tail, .star k m⟩
theorem lg_opt {g : Fc} {q : List Fc} {c : Nat} {x : List Nat} (k : g.1 = false) (m : c ∈ ls g) : Lg (g :: q) (c :: x) ↔ Lg q x := by
  constructor
  · intro h
    cases h with
    | skip h => exact h.tail
    | opt _ _ h => exact h
    | star k' _ _ => rw [k] at k'; cases k'
  · exact .opt k m
theorem lg_not {g : Fc} {q : List Fc} {c : Nat} {x : List Nat} (m : c ∉ ls g) : Lg (g :: q) (c :: x) ↔ Lg q (c :: x) := by
  constructor
  · intro h
    cases h with
    | skip h => exact h
    | opt _ m' _ => exact absurd m' m
    | star _ m' _ => exact absurd m' m
  · exact .skip
theorem rst_word : ∀ (w : List Nat) (q : List Fc), W1 q → ∀ u, Lg q (w ++ u) ↔ ∃ r, rst q (ones w) = some r ∧ Lg r u
  | [], q, _, u => by
    rw [show ones [] = [] from rfl, rst_nil]
    exact ⟨fun h => ⟨q, rfl, h⟩, fun ⟨r, e, h⟩ => by cases e; exact h⟩
  | c :: w, [], _, u => by
    rw [show ones (c :: w) = (false, one c) :: ones w from rfl, rst_none]
    exact ⟨fun h => (nomatch h), fun ⟨r, e, h⟩ => (nomatch e)⟩
  | c :: w, g :: q, wq, u => by
    have wq' : W1 q := fun f hf => wq f (List.mem_cons_of_mem _ hf)
    have hg := wq g List.mem_cons_self
    rw [show ones (c :: w) = (false, one c) :: ones w from rfl, rst_cons, List.cons_append]
    by_cases m : c ∈ ls g
    · rw [if_pos ((cov_ch hg c).mpr m)]
      by_cases k : g.1 = true
      · rw [if_pos k, lg_star k m]
        exact rst_word w (g :: q) wq u
      · rw [if_neg k, lg_opt (by simpa using k) m]
        exact rst_word w q wq' u
    · rw [if_neg fun e => m ((cov_ch hg c).mp e), lg_not m, ← List.cons_append]
      exact rst_word (c :: w) q wq' u
termination_by w q => w.length + q.length
theorem rst_suf : ∀ (q p r : List Fc), rst q p = some r → r <:+ q
  | q, [], r, h => by
    rw [rst_nil] at h
    cases h
    exact List.suffix_refl q
  | [], f :: p, r, h => by
    rw [rst_none] at h
    cases h
  | g :: q, f :: p, r, h => by
    rw [rst_cons] at h
    by_cases c : cov g f = true
    · rw [if_pos c] at h
      by_cases k : g.1 = true
      · rw [if_pos k] at h
        exact rst_suf (g :: q) p r h
      · rw [if_neg k] at h
        exact (rst_suf q p r h).trans (List.suffix_cons g q)
    · rw [if_neg c] at h
      exact (rst_suf q (f :: p) r h).trans (List.suffix_cons g q)
termination_by q p => q.length + p.length
theorem suf_drop {r q : List Fc} (h : r <:+ q) : q.drop (q.length - r.length) = r := by
  obtain ⟨a, rfl⟩ := h
  rw [List.length_append, Nat.add_sub_cancel, List.drop_left]
/-- what is left of products behind another one -/
def rsts (zs : List (List Fc)) (p : List Fc) : List (List Fc) := zs.filterMap fun q => rst q p
theorem rsts_mem {zs : List (List Fc)} {p r : List Fc} (h : r ∈ rsts zs p) : ∃ q ∈ zs, rst q p = some r := by
  obtain ⟨q, hq, e⟩ := List.mem_filterMap.mp h
  exact ⟨q, hq, e⟩
theorem rsts_ok {z : Str} {zs : List (List Fc)} {p : List Fc} (ok : ∀ q ∈ zs, ∀ f ∈ q, FOk z f) : ∀ r ∈ rsts zs p, ∀ f ∈ r, FOk z f := fun r hr f hf => by
  obtain ⟨q, hq, e⟩ := rsts_mem hr
  exact ok q hq f ((rst_suf q p r e).subset hf)
theorem rsts_len {n : Nat} {zs : List (List Fc)} {p : List Fc} (ok : ∀ q ∈ zs, q.length ≤ n) : ∀ r ∈ rsts zs p, r.length ≤ n := fun r hr => by
  obtain ⟨q, hq, e⟩ := rsts_mem hr
  exact Nat.le_trans (rst_suf q p r e).length_le (ok q hq)
theorem rsts_few (zs : List (List Fc)) (p : List Fc) : (rsts zs p).length ≤ zs.length := List.length_filterMap_le _ _
theorem rsts_word {zs : List (List Fc)} (wz : ∀ q ∈ zs, W1 q) (w u : List Nat) : (∃ r ∈ rsts zs (ones w), Lg r u) ↔ ∃ q ∈ zs, Lg q (w ++ u) := by
  constructor
  · rintro ⟨r, hr, h⟩
    obtain ⟨q, hq, e⟩ := rsts_mem hr
    exact ⟨q, hq, (rst_word w q (wz q hq) u).mpr ⟨r, e, h⟩⟩
  · rintro ⟨q, hq, h⟩
    obtain ⟨r, e, h⟩ := (rst_word w q (wz q hq) u).mp h
    exact ⟨r, List.mem_filterMap.mpr ⟨q, hq, e⟩, h⟩
theorem rsts_nil (zs : List (List Fc)) : rsts zs [] = zs := by
  unfold rsts
  induction zs with
  | nil => rfl
  | cons q r ih => rw [List.filterMap_cons, rst_nil, ih]
end DW
/-! the written form tells Languages apart -/
namespace DW
open PySem PySem.Spec PyProof.Rows L2 TL
set_option autoImplicit false
theorem pform_sign {z : Str} (al : Alph z) {q : List Fc} (ok : ∀ f ∈ q, FOk z f) : ∀ c ∈ tl (pform q), c ≠ 32 := fun c hc => by
  by_cases e : q = []
  · subst e
    have : c ∈ [45] := hc
    rw [List.mem_singleton.mp this]
    decide
  · rw [pform_tl e] at hc
    obtain ⟨l, hl, hc⟩ := List.mem_flatten.mp hc
    obtain ⟨f, hf, rfl⟩ := List.mem_map.mp hl
    have low : ∀ c ∈ tl f.2, 97 ≤ c ∧ c ≤ 122 := fun c hc => al.2.2.2 c ((ok f hf).2.1.subset hc)
    have hc : c ∈ tl (fform f) := hc
    rw [fform_tl] at hc
    by_cases k : f.1 = true
    · rw [if_pos k] at hc
      rcases List.mem_cons.mp hc with h | h
      · rw [h]
        decide
      · rcases List.mem_append.mp h with h | h
        · have := low c h
          omega
        · simp only [List.mem_cons, List.not_mem_nil, or_false] at h
          omega
    · rw [if_neg k] at hc
      rcases List.mem_append.mp hc with h | h
      · have := low c h
        omega
      · rw [List.mem_singleton.mp h]
        decide
/-- the form of a product never begins like «none» -/
theorem pform_first {z : Str} (al : Alph z) {q : List Fc} (ok : ∀ f ∈ q, FOk z f) (y : List Nat) : tl (pform q) ++ y ≠ [110, 111, 110, 101] := by
  by_cases e : q = []
  · subst e
    have : tl (pform []) = [45] := by
      unfold pform
      rw [if_pos rfl]
      decide +kernel
    rw [this]
    intro h
    have := (List.cons.inj h).1
    omega
  · cases q with
    | nil => exact absurd rfl e
    | cons f r =>
      rw [pform_tl e, List.map_cons, List.flatten_cons, fform_tl, List.append_assoc]
      have hf := ok f List.mem_cons_self
      by_cases k : f.1 = true
      · rw [if_pos k]
        intro h
        have := (List.cons.inj h).1
        omega
      · rw [if_neg k]
        obtain ⟨c, hc⟩ := List.length_eq_one_iff.mp (hf.2.2 (by simpa using k))
        rw [hc]
        intro h
        have := (List.cons.inj (List.cons.inj h).2).1
        omega
theorem join_inj {z : Str} (al : Alph z) : ∀ (as bs : List (List Fc)), as ≠ [] → bs ≠ [] → (∀ q ∈ as, ∀ f ∈ q, FOk z f) → (∀ q ∈ bs, ∀ f ∈ q, FOk z f) →
    joinL [32, 43, 32] (as.map fun q => tl (pform q)) = joinL [32, 43, 32] (bs.map fun q => tl (pform q)) → as = bs
  | [], _, h, _, _, _, _ => absurd rfl h
  | _ :: _, [], _, h, _, _, _ => absurd rfl h
  | [a], [b], _, _, oa, ob, h => by
    rw [pform_inj al (oa a List.mem_cons_self) (ob b List.mem_cons_self) h]
  | [a], b :: b' :: bs, _, _, oa, ob, h => by
    have h : tl (pform a) = tl (pform b) ++ ([32, 43, 32] ++ joinL [32, 43, 32] ((b' :: bs).map fun q => tl (pform q))) := h
    have : 32 ∈ tl (pform a) := by
      rw [h]
      exact List.mem_append_right _ (List.mem_append_left _ List.mem_cons_self)
    exact absurd rfl (pform_sign al (oa a List.mem_cons_self) 32 this)
  | a :: a' :: as, [b], _, _, oa, ob, h => by
    have h : tl (pform a) ++ ([32, 43, 32] ++ joinL [32, 43, 32] ((a' :: as).map fun q => tl (pform q))) = tl (pform b) := h
    have : 32 ∈ tl (pform b) := by
      rw [← h]
      exact List.mem_append_right _ (List.mem_append_left _ List.mem_cons_self)
    exact absurd rfl (pform_sign al (ob b List.mem_cons_self) 32 this)
  | a :: a' :: as, b :: b' :: bs, _, _, oa, ob, h => by
    have h : tl (pform a) ++ 32 :: ([43, 32] ++ joinL [32, 43, 32] ((a' :: as).map fun q => tl (pform q))) = tl (pform b) ++ 32 :: ([43, 32] ++ joinL [32, 43, 32] ((b' :: bs).map fun q => tl (pform q))) := h
    obtain ⟨h1, h2⟩ := app_split (pform_sign al (oa a List.mem_cons_self)) (pform_sign al (ob b List.mem_cons_self)) rfl h
    have h3 := List.append_cancel_left h2
    rw [pform_inj al (oa a List.mem_cons_self) (ob b List.mem_cons_self) h1, join_inj al (a' :: as) (b' :: bs) (List.cons_ne_nil _ _) (List.cons_ne_nil _ _) (fun q hq => oa q (List.mem_cons_of_mem _ hq)) (fun q hq => ob q (List.mem_cons_of_mem _ hq)) h3]
theorem lform_tl {zs : List (List Fc)} (h : zs ≠ []) : tl (lform zs) = joinL [32, 43, 32] (zs.map fun q => tl (pform q)) := by
  unfold lform
  rw [if_neg h]
  have e : tl (Str.join " + " (zs.map pform)) = joinL (tl " + ") ((zs.map pform).map tl) := tl_join " + " (zs.map pform)
  rw [join_eq, e, List.map_map]
  have e2 : tl (" + " : Str) = [32, 43, 32] := by decide +kernel
  rw [e2]
  rfl
theorem lform_none {z : Str} (al : Alph z) {zs : List (List Fc)} (h : zs ≠ []) (ok : ∀ q ∈ zs, ∀ f ∈ q, FOk z f) : tl (lform zs) ≠ tl (lform []) := by
  rw [lform_tl h]
  have e : tl (lform []) = [110, 111, 110, 101] := by
    unfold lform
    rw [if_pos rfl]
    decide +kernel
  rw [e]
  match zs, h, ok with
  | [a], _, ok =>
    have := pform_first al (ok a List.mem_cons_self) []
    rw [List.append_nil] at this
    exact this
  | a :: b :: r, _, ok => exact pform_first al (ok a List.mem_cons_self) _
theorem lform_inj {z : Str} (al : Alph z) {as bs : List (List Fc)} (oa : ∀ q ∈ as, ∀ f ∈ q, FOk z f) (ob : ∀ q ∈ bs, ∀ f ∈ q, FOk z f) (h : tl (lform as) = tl (lform bs)) : as = bs := by
  by_cases ea : as = []
  · by_cases eb : bs = []
    · rw [ea, eb]
    · rw [ea] at h
      exact absurd h.symm (lform_none al eb ob)
  · by_cases eb : bs = []
    · rw [eb] at h
      exact absurd h (lform_none al ea oa)
    · rw [lform_tl ea, lform_tl eb] at h
      exact join_inj al as bs ea eb oa ob h
theorem lstr_inj {z : Str} (al : Alph z) {as bs : List (List Fc)} (oa : ∀ q ∈ as, ∀ f ∈ q, FOk z f) (ob : ∀ q ∈ bs, ∀ f ∈ q, FOk z f) (h : lstr z as = lstr z bs) : as = bs := by
  have h := congrArg tl h
  unfold lstr at h
  have e : ∀ s : Str, tl (Str.empty ++ z ++ (": " : Str) ++ s) = tl (Str.empty ++ z ++ (": " : Str)) ++ tl s := fun s => tl_app _ _
  rw [e, e] at h
  exact lform_inj al oa ob (List.append_cancel_left h)
end DW
/-! automata of languages: the maths -/
namespace DW
open PySem PySem.Spec PyProof.Rows L2 TL
set_option autoImplicit false
abbrev HasL (zs : List (List Fc)) (u : List Nat) : Prop := ∃ q ∈ zs, Lg q u
theorem Can.ok {z : Str} {zs : List (List Fc)} (C : Can z zs) : ∀ q ∈ zs, ∀ f ∈ q, FOk z f := fun q hq => (C.rz q hq).ok
theorem Can.w1 {z : Str} {zs : List (List Fc)} (C : Can z zs) : ∀ q ∈ zs, W1 q := fun q hq => fok_w1 (C.ok q hq)
theorem can_sub {z : Str} (al : Alph z) {as bs : List (List Fc)} (A : Can z as) (B : Can z bs) (h : ∀ u, HasL as u ↔ HasL bs u) : ∀ q ∈ as, q ∈ bs := fun q hq => by
  have e : ∀ {xs : List (List Fc)} (X : Can z xs) (u : List Nat), hasW xs u = true ↔ HasL xs u := fun X u => hasW_iff X.w1 u
  obtain ⟨q', hq', i1⟩ := into_one (A.rz q hq) B.rz fun u hu => (e B u).mpr ((h u).mp ⟨q, hq, hu⟩)
  obtain ⟨q2, hq2, i2⟩ := into_one (B.rz q' hq') A.rz fun u hu => (e A u).mpr ((h u).mpr ⟨q', hq', hu⟩)
  have i3 := inc_trans (A.w1 q2 hq2) (A.w1 q hq) i2 i1
  have e1 := A.an q2 hq2 q hq i3
  subst e1
  rw [inc_anti al (A.rz q hq) (B.rz q' hq') i2 i1]
  exact hq'
theorem can_uniq {z : Str} (al : Alph z) {as bs : List (List Fc)} (A : Can z as) (B : Can z bs) (h : ∀ u, HasL as u ↔ HasL bs u) : as = bs :=
  sorted_uniq as bs (fun a ha b hb h1 h2 => pform_inj al (A.ok a ha) (A.ok b hb) (List.le_antisymm h1 h2)) A.so B.so A.nd B.nd fun q => ⟨can_sub al A B h q, can_sub al B A (fun u => (h u).symm) q⟩
/-! ### how many states -/
abbrev Tup := List (Option (List Fc))
def tupOf (zs : List (List Fc)) (w : List Nat) : Tup := zs.map fun q => rst q (ones w)
def tails : List Fc → List (List Fc)
  | [] => [[]]
  | f :: r => (f :: r) :: tails r
theorem tails_len : ∀ q : List Fc, (tails q).length = q.length + 1
  | [] => rfl
  | f :: r => by
    show (tails r).length + 1 = _
    rw [tails_len r]
    rfl
theorem tails_mem : ∀ {q r : List Fc}, r <:+ q → r ∈ tails q
  | [], r, h => by
    rw [List.suffix_nil.mp h]
    exact List.mem_cons_self
  | f :: q, r, h => by
    rcases List.suffix_cons_iff.mp h with e | e
    · rw [e]
      exact List.mem_cons_self
    · exact List.mem_cons_of_mem _ (tails_mem e)
def tups : List (List Fc) → List Tup
  | [] => [[]]
  | q :: zs => ((none :: (tails q).map some).map fun o => (tups zs).map fun t => o :: t).flatten
def prodN : List (List Fc) → Nat
  | [] => 1
  | q :: zs => (q.length + 2) * prodN zs
theorem flatN_len {α β : Type} (f : α → List β) (n : Nat) (h : ∀ a, (f a).length = n) : ∀ l : List α, (l.map f).flatten.length = l.length * n
  | [] => by simp
  | a :: l => by
    rw [List.map_cons, List.flatten_cons, List.length_append, flatN_len f n h l, h, List.length_cons, Nat.add_mul, Nat.one_mul, Nat.add_comm]
theorem tups_len : ∀ zs : List (List Fc), (tups zs).length = prodN zs
  | [] => rfl
  | q :: zs => by
    unfold tups prodN
    rw [flatN_len _ (tups zs).length (fun o => by rw [List.length_map]), tups_len zs, List.length_cons, List.length_map, tails_len]
theorem tups_mem : ∀ (zs : List (List Fc)) (w : List Nat), tupOf zs w ∈ tups zs
  | [], w => List.mem_cons_self
  | q :: zs, w => by
    show rst q (ones w) :: tupOf zs w ∈ ((none :: (tails q).map some).map fun o => (tups zs).map fun t => o :: t).flatten
    refine List.mem_flatten.mpr ⟨(tups zs).map fun t => rst q (ones w) :: t, List.mem_map.mpr ⟨rst q (ones w), ?_, rfl⟩, List.mem_map.mpr ⟨_, tups_mem zs w, rfl⟩⟩
    cases e : rst q (ones w) with
    | none => exact List.mem_cons_self
    | some r => exact List.mem_cons_of_mem _ (List.mem_map_of_mem (tails_mem (rst_suf q _ r e)))
theorem tup_lang {zs : List (List Fc)} (wz : ∀ q ∈ zs, W1 q) {w w' : List Nat} (e : tupOf zs w = tupOf zs w') (u : List Nat) : HasL zs (w ++ u) ↔ HasL zs (w' ++ u) := by
  have main : ∀ {w w' : List Nat}, tupOf zs w = tupOf zs w' → HasL zs (w ++ u) → HasL zs (w' ++ u) := fun {w w'} e => by
    rintro ⟨q, hq, h⟩
    obtain ⟨r, hr, hu⟩ := (rst_word w q (wz q hq) u).mp h
    have eq : rst q (ones w) = rst q (ones w') := by
      obtain ⟨i, hi⟩ := List.getElem?_of_mem hq
      have := congrArg (fun t : Tup => t[i]?) e
      simp only [tupOf, List.getElem?_map, hi, Option.map_some] at this
      exact Option.some.inj this
    exact ⟨q, hq, (rst_word w' q (wz q hq) u).mpr ⟨r, by rw [← eq]; exact hr, hu⟩⟩
  exact ⟨main e, main e.symm⟩
/-! ### rows -/
/-- the row of a state, as far as the letters go -/
structure RowOf (S : List (List (List Fc))) (s : List (List Fc)) (cs : List Nat) (row : List (Option Nat)) : Prop where
  len : row.length = cs.length
  at_ : ∀ (j c : Nat), cs[j]? = some c → (row[j]? = some none ∧ ∀ u, ¬ HasL s (c :: u)) ∨ ∃ (k : Nat) (s' : List (List Fc)), row[j]? = some (some k) ∧ S[k]? = some s' ∧ ∀ u, HasL s (c :: u) ↔ HasL s' u
theorem RowOf.more {S : List (List (List Fc))} {s x : List (List Fc)} {cs : List Nat} {row : List (Option Nat)} (R : RowOf S s cs row) : RowOf (S ++ [x]) s cs row :=
  ⟨R.len, fun j c h => by
    rcases R.at_ j c h with q | ⟨k, s', h1, h2, h3⟩
    · exact .inl q
    · exact .inr ⟨k, s', h1, by rw [List.getElem?_append_left (List.getElem?_eq_some_iff.mp h2).1]; exact h2, h3⟩⟩
theorem RowOf.snoc {S : List (List (List Fc))} {s : List (List Fc)} {cs : List Nat} {c : Nat} {row : List (Option Nat)} {o : Option Nat} (R : RowOf S s cs row)
    (h : (o = none ∧ ∀ u, ¬ HasL s (c :: u)) ∨ ∃ (k : Nat) (s' : List (List Fc)), o = some k ∧ S[k]? = some s' ∧ ∀ u, HasL s (c :: u) ↔ HasL s' u) : RowOf S s (cs ++ [c]) (row ++ [o]) := by
  refine ⟨by rw [List.length_append, List.length_append, R.len]; rfl, fun j d hd => ?_⟩
  rcases Nat.lt_or_ge j cs.length with lt | ge
  · rw [List.getElem?_append_left lt] at hd
    rcases R.at_ j d hd with q | ⟨k, s', h1, h2, h3⟩
    · exact .inl ⟨by rw [List.getElem?_append_left (by rw [R.len]; exact lt)]; exact q.1, q.2⟩
    · exact .inr ⟨k, s', by rw [List.getElem?_append_left (by rw [R.len]; exact lt)]; exact h1, h2, h3⟩
  · rw [List.getElem?_append_right ge] at hd
    have e0 : j - cs.length = 0 := by
      rcases Nat.eq_zero_or_pos (j - cs.length) with q | q
      · exact q
      · rw [List.getElem?_eq_none (by show 1 ≤ _; omega)] at hd
        cases hd
    rw [e0] at hd
    cases hd
    have er : (row ++ [o])[j]? = some o := by
      rw [List.getElem?_append_right (by rw [R.len]; exact ge), R.len, e0]
      rfl
    rcases h with ⟨rfl, q⟩ | ⟨k, s', rfl, q⟩
    · exact .inl ⟨er, q⟩
    · exact .inr ⟨k, s', er, q⟩
/-- numbers in the order in which they are first seen -/
inductive Seen : List (Option Nat) → Nat → Prop where
  | nil : Seen [] 1
  | none {es : List (Option Nat)} {m : Nat} (r : Seen es m) : Seen (es ++ [Option.none]) m
  | old {es : List (Option Nat)} {m k : Nat} (r : Seen es m) (h : k < m) : Seen (es ++ [some k]) m
  | new {es : List (Option Nat)} {m : Nat} (r : Seen es m) : Seen (es ++ [some m]) (m + 1)
/-- the states and the rows that are done -/
structure Au0 (z : Str) (zs : List (List Fc)) (S : List (List (List Fc))) (rows : List (List (Option Nat))) (es : List (Option Nat)) : Prop where
  ln : rows.length ≤ S.length
  hd : S[0]? = some zs
  can : ∀ s ∈ S, Can z s ∧ s ≠ []
  nd : S.Nodup
  few : ∀ s ∈ S, s.length ≤ zs.length
  short : ∀ n, (∀ q ∈ zs, q.length ≤ n) → ∀ s ∈ S, ∀ q ∈ s, q.length ≤ n
  nx : ∀ (i : Nat) (s : List (List Fc)) (row : List (Option Nat)), S[i]? = some s → rows[i]? = some row → RowOf S s (tl z) row
  wd : ∃ wd : List (List Nat), wd.length = S.length ∧ ∀ (k : Nat) (w : List Nat) (s : List (List Fc)), wd[k]? = some w → S[k]? = some s → (∀ c ∈ w, c ∈ tl z) ∧ ∀ u, HasL s u ↔ HasL zs (w ++ u)
  ord : Seen es S.length
theorem Au0.bound {z : Str} (al : Alph z) {zs : List (List Fc)} {S : List (List (List Fc))} {rows : List (List (Option Nat))} {es : List (Option Nat)} (A : Au0 z zs S rows es) : S.length ≤ prodN zs := by
  obtain ⟨wd, wl, h⟩ := A.wd
  have wz : ∀ q ∈ zs, W1 q := (A.can zs (List.mem_of_getElem? A.hd)).1.w1
  have nd : (wd.map (tupOf zs)).Nodup := by
    refine List.nodup_iff_pairwise_ne.mpr (List.pairwise_iff_getElem.mpr fun i j hi hj lt e => ?_)
    rw [List.length_map] at hi hj
    rw [List.getElem_map, List.getElem_map] at e
    have si : S[i]? = some (S[i]'(by omega)) := List.getElem?_eq_getElem _
    have sj : S[j]? = some (S[j]'(by omega)) := List.getElem?_eq_getElem _
    have li := (h i wd[i] _ (List.getElem?_eq_getElem _) si).2
    have lj := (h j wd[j] _ (List.getElem?_eq_getElem _) sj).2
    have : S[i]'(by omega) = S[j]'(by omega) := can_uniq al (A.can _ (List.getElem_mem _)).1 (A.can _ (List.getElem_mem _)).1 fun u => (li u).trans ((tup_lang wz e u).trans (lj u).symm)
    exact (List.pairwise_iff_getElem.mp (List.nodup_iff_pairwise_ne.mp A.nd) i j (by omega) (by omega) lt) this
  have := nodup_len _ (tups zs) nd fun t ht => by
    obtain ⟨w, _, rfl⟩ := List.mem_map.mp ht
    exact tups_mem zs w
  rw [List.length_map, tups_len] at this
  omega
theorem Au0.start {z : Str} {zs : List (List Fc)} (C : Can z zs) (ne : zs ≠ []) : Au0 z zs [zs] [] [] :=
  ⟨Nat.zero_le _, rfl, fun s hs => by rw [List.mem_singleton.mp hs]; exact ⟨C, ne⟩, by simp, fun s hs => by rw [List.mem_singleton.mp hs]; exact Nat.le_refl _, fun n h s hs => by rw [List.mem_singleton.mp hs]; exact h,
    fun i s row _ h => by simp at h, ⟨[[]], rfl, fun k w s hk hs => by
      cases k with
      | zero =>
        cases hk
        cases hs
        exact ⟨fun c hc => (nomatch hc), fun u => Iff.rfl⟩
      | succ k => cases hk⟩, .nil⟩
/-- what the derivative by a letter is -/
theorem der_lang {z : Str} {s ws : List (List Fc)} {c : Nat} (C : Can z s) (M : MaxOf (rsts s (ones [c])) ws) (u : List Nat) : HasL ws u ↔ HasL s (c :: u) := by
  have okr := rsts_ok (p := ones [c]) C.ok
  show (∃ q ∈ ws, Lg q u) ↔ ∃ q ∈ s, Lg q (c :: u)
  rw [← hasW_iff (fun q hq => fok_w1 ((M.rz okr q hq).ok)) u, M.has (fun p hp => fok_w1 (okr p hp)) u, rsts_word C.w1]
  rfl
theorem Au0.more {z : Str} (al : Alph z) {zs : List (List Fc)} {S : List (List (List Fc))} {rows : List (List (Option Nat))} {es : List (Option Nat)} {i c : Nat} {s ws : List (List Fc)} (A : Au0 z zs S rows es) (hs : S[i]? = some s) (hc : c ∈ tl z) (M : MaxOf (rsts s (ones [c])) ws) (n1 : ws ∉ S) (n2 : ws ≠ []) : Au0 z zs (S ++ [ws]) rows (es ++ [some S.length]) := by
  have sm := List.mem_of_getElem? hs
  have Cs := (A.can s sm).1
  have okr := rsts_ok (p := ones [c]) Cs.ok
  have lt0 : 0 < S.length := (List.getElem?_eq_some_iff.mp A.hd).1
  refine ⟨by rw [List.length_append]; exact Nat.le_succ_of_le A.ln, by rw [List.getElem?_append_left lt0]; exact A.hd, fun x hx => ?_, ?_, fun x hx => ?_, fun n h x hx => ?_, fun j x row hj hr => ?_, ?_, ?_⟩
  · rcases List.mem_append.mp hx with e | e
    · exact A.can x e
    · rw [List.mem_singleton.mp e]
      exact ⟨M.can al okr, n2⟩
  · refine List.nodup_append.mpr ⟨A.nd, by simp, fun a ha b hb e => ?_⟩
    rw [List.mem_singleton.mp hb] at e
    rw [e] at ha
    exact n1 ha
  · rcases List.mem_append.mp hx with e | e
    · exact A.few x e
    · rw [List.mem_singleton.mp e]
      exact Nat.le_trans (M.few al okr) (Nat.le_trans (rsts_few _ _) (A.few s sm))
  · rcases List.mem_append.mp hx with e | e
    · exact A.short n h x e
    · rw [List.mem_singleton.mp e]
      exact M.short (rsts_len (A.short n h s sm))
  · have lj := (List.getElem?_eq_some_iff.mp hr).1
    have := A.ln
    rw [List.getElem?_append_left (by omega)] at hj
    exact (A.nx j x row hj hr).more
  · obtain ⟨wd, wl, h⟩ := A.wd
    have hi := (List.getElem?_eq_some_iff.mp hs).1
    refine ⟨wd ++ [wd[i]'(by omega) ++ [c]], by rw [List.length_append, List.length_append]; show wd.length + 1 = S.length + 1; omega, fun k w x hk hx => ?_⟩
    rcases Nat.lt_or_ge k S.length with lt | ge
    · rw [List.getElem?_append_left (by omega)] at hk
      rw [List.getElem?_append_left lt] at hx
      exact h k w x hk hx
    · have e0 : k = S.length := by
        have := (List.getElem?_eq_some_iff.mp hx).1
        rw [List.length_append] at this
        have : k < S.length + 1 := this
        omega
      rw [List.getElem?_append_right (by omega), show k - wd.length = 0 by omega] at hk
      rw [List.getElem?_append_right (by omega), show k - S.length = 0 by omega] at hx
      cases hk
      cases hx
      obtain ⟨h1, h2⟩ := h i wd[i] s (List.getElem?_eq_getElem _) hs
      refine ⟨fun d hd => ?_, fun u => ?_⟩
      · rcases List.mem_append.mp hd with e | e
        · exact h1 d e
        · rw [List.mem_singleton.mp e]
          exact hc
      · rw [der_lang Cs M u, h2, List.append_assoc]
        rfl
  · rw [List.length_append]
    exact .new A.ord
end DW
/-! language_of_maximal -/
namespace DW
open PySem PySem.Spec PyProof.Rows L2 TL
set_option autoImplicit false
theorem flL_put (z : Str) (q l : Addr) : putF "maximal" (.ref l) (flL z q) = flL z l := by
  have n : ¬ (("base" : Str) = "maximal") := by decide +kernel
  have e0 : ∀ v, putF "maximal" v [(("base" : Str), V.str z)] = [(("base" : Str), V.str z), (("maximal" : Str), v)] := fun v => by
    show (if ("base" : Str) = "maximal" then _ else _) = _
    rw [if_neg n]
    rfl
  have e1 : ∀ a : Addr, flL z a = [(("base" : Str), V.str z), (("maximal" : Str), V.ref a)] := fun a => e0 _
  rw [e1, e1]
  show (if ("base" : Str) = "maximal" then _ else _) = _
  rw [if_neg n]
  show _ :: (if ("maximal" : Str) = "maximal" then _ else _) = _
  rw [if_pos rfl]
/-- a Language that is new, and its list too -/
def LaNew (K : PySem.W.Frag) (C : Addr) (H H' : Hp) (x : Addr) (z : Str) (zs : List (List Fc)) : Prop := ∃ dx q ys, H' x = some (.ins C dx (flL z q)) ∧ H' q = some (.lst ys) ∧ IsL K H' ys zs ∧ H q = none ∧ H x = none
theorem LaNew.at {K : PySem.W.Frag} {C : Addr} {H H' : Hp} {x : Addr} {z : Str} {zs : List (List Fc)} (h : LaNew K C H H' x z zs) : LaAt K C H' x z zs := by
  obtain ⟨dx, q, ys, h1, h2, h3, _⟩ := h
  exact ⟨dx, q, ys, h1, h2, h3⟩
theorem LaNew.pre {K : PySem.W.Frag} {C : Addr} {H0 H H' : Hp} {x : Addr} {z : Str} {zs : List (List Fc)} (s : Same H0 H) (h : LaNew K C H H' x z zs) : LaNew K C H0 H' x z zs := by
  obtain ⟨dx, q, ys, h1, h2, h3, h4, h5⟩ := h
  exact ⟨dx, q, ys, h1, h2, h3, s.free h4, s.free h5⟩
def spLom (K : PySem.W.Frag) (C : Addr) : Sp := fun vs H Q _ => ∃ (a : Addr) (z : Str) (xs : List V) (zs : List (List Fc)), vs = [.str z, .ref a] ∧ SqL K H a xs ∧ IsL K H xs zs ∧ Alph z ∧
  ∀ H' x, Same H H' → LaNew K C H H' x z zs → Q (.ref x) H'
section
variable {P : Program} {w : World} {K : PySem.W.Frag} {mg : Str → Option Value} {base : Heap}
theorem scLom : FnScope ["alphabet", "products", "language"] ["alphabet", "products"] (defScope sLanguageOfMaximal) := ⟨rfl, rfl, rfl, by decide +kernel, rfl, by decide +kernel, by decide +kernel⟩
theorem ok_lom (D : Df K mg "language_of_maximal" sLanguageOfMaximal ["alphabet", "products"]) (L : DfLa K mg) : FnOk P w K mg base CX0 9 D.f D.fd ["alphabet", "products"] (spLom K L.C) := by
  have GI : FnOk P w K mg base CX0 7 L.i.f L.i.fd ["self", "alphabet", "products"] (spLi K L.C) := ok_li L
  refine D.F.ok scLom (fun vs H Q E h => ?_) (fun cdv A outer s H vs Q E hr h => ?_)
  · obtain ⟨a, z, xs, zs, rfl, _⟩ := h
    rfl
  · obtain ⟨a, z, xs, zs, rfl, ha, iA, al, k⟩ := h
    refine ⟨_, (pss_cons (ps_set (i := 2) scLom.nd rfl (.inl rfl) (pe_make L.mkr GI hr (by rfl) L.g L.i.b .nil pass0 (pa_cons (pv 0) (pa_cons (pe_lst pa_nil) pa_nil)))) (pss_cons (ps_fld (pv 2) (pe_callTy call_list_of (by rfl) L.mli (by decide +kernel) (pa_cons (pv 1) pa_nil)) rfl) (pss_one (ps_ret (pv 2))))), ?_⟩
    refine ⟨.str z, rfl, by show 0 ≤ sizeLine; decide, fun l5 hl5 => fun n dn hn hdn nnd => ?_⟩
    have sl5 := same_upd (o := .lst []) hl5
    have sN : Same (upd H l5 (.lst [])) (upd (upd (upd H l5 (.lst [])) dn (.own n)) n (.ins L.C dn [])) := fun b o e => (upd_ne (ne_of_none e hn)).trans ((upd_ne (ne_of_none e hdn)).trans e)
    refine ⟨n, dn, l5, z, [], [], rfl, upd_same, sN _ _ upd_same, .nil, al, by decide, fun p hp => (nomatch hp), fun F2 zs0 kp0 La0 mo0 _ => ⟨rfl, ?_⟩⟩
    have t5 : Same (upd H l5 (.lst [])) F2 := fun b o e => kp0 b o (sN _ _ e) (ne_of_none e hn)
    have s5 := sl5.trans t5
    obtain ⟨dx, q, ys, h1, h2, h3⟩ := La0
    refine ⟨.ref a, rfl, a, xs, rfl, .inl (same_lst s5 ha), fun l hl => ?_⟩
    have sl := same_upd (o := .lst xs) hl
    have h1' := sl _ _ h1
    refine ⟨.ref n, rfl, n, L.C, dx, _, rfl, h1', L.cl, L.nM, by show 2 < 1000; decide, ?_⟩
    have hn0 : H n = none := sl5.free hn
    have sE : Same H (upd (upd F2 l (.lst xs)) n (.ins L.C dx (putF "maximal" (.ref l) (flL z q)))) := fun b o e => (upd_ne (ne_of_none e hn0)).trans (sl _ _ (s5 _ _ e))
    rw [flL_put] at sE ⊢
    have nln : l ≠ n := fun e => by rw [e, h1] at hl; cases hl
    refine ⟨_, rfl, k _ n sE ⟨dx, l, xs, upd_same, (upd_ne nln).trans upd_same, iA.mono (same_tup sE), s5.free hl, hn0⟩⟩
end
end DW
/-! rests_behind, derivative -/
namespace DW
open PySem PySem.Spec PyProof.Rows L2 TL
set_option autoImplicit false
def spRests (K : PySem.W.Frag) (C : Addr) : Sp := fun vs H Q _ => ∃ (v : V) (p : Addr) (z : Str) (pr : List Fc) (zs : List (List Fc)), vs = [v, .ref p] ∧ IsP K H v pr ∧ (∀ f ∈ pr, Low f) ∧ LaAt K C H p z zs ∧ Alph z ∧ zs.length ≤ 1000000 ∧ (∀ q ∈ zs, q.length ≤ 10000 ∧ ∀ f ∈ q, FOk z f) ∧
  ∀ H' q ys ws, Same H H' → H q = none → H' q = some (.lst ys) → IsL K H' ys ws → MaxOf (rsts zs pr) ws → Q (.ref q) H'
def spDer (K : PySem.W.Frag) (C : Addr) : Sp := fun vs H Q _ => ∃ (p : Addr) (x z : Str) (zs : List (List Fc)), vs = [.ref p, .str x] ∧ (∀ c ∈ tl x, c < 128) ∧ (tl x).length ≤ 100000 ∧ LaAt K C H p z zs ∧ Alph z ∧ zs.length ≤ 1000000 ∧ (∀ q ∈ zs, q.length ≤ 10000 ∧ ∀ f ∈ q, FOk z f) ∧
  ∀ H' x' ws, Same H H' → LaNew K C H H' x' z ws → MaxOf (rsts zs (ones (tl x))) ws → Q (.ref x') H'
theorem rsts_take {zs : List (List Fc)} {pr q : List Fc} {i : Nat} (h : zs[i]? = some q) : rsts (zs.take (i + 1)) pr = rsts (zs.take i) pr ++ (rst q pr).toList := by
  unfold rsts
  rw [List.take_add_one, h, List.filterMap_append]
  cases e : rst q pr with
  | none => simp [e]
  | some r => simp [e]
section
variable {P : Program} {w : World} {K : PySem.W.Frag} {mg : Str → Option Value} {base : Heap}
theorem scRests : FnScope ["product", "language", "found", "other", "place"] ["product", "language"] (defScope sRestsBehind) := ⟨rfl, rfl, rfl, by decide +kernel, rfl, by decide +kernel, by decide +kernel⟩
theorem ok_rests (D : Df K mg "rests_behind" sRestsBehind ["product", "language"]) (L : DfLa K mg) (C : DfC2 K mg) (eC : L.C = C.C) : FnOk P w K mg base CX0 7 D.f D.fd ["product", "language"] (spRests K C.C) := by
  have Gp : FnOk P w K mg base CX0 1 C.p.f C.p.fd ["self"] (spLaP K C.C) := ok_laP C L.mli
  have Gc : FnOk P w K mg base CX0 3 L.mx.incl.p.f L.mx.incl.p.fd ["product", "other", "start"] (spPlc K) := ok_plc L.mx.incl.p L.mx.incl.b L.mx.incl.c L.mx.incl.s L.pr.ma L.pr.ml
  have Gm : FnOk P w K mg base CX0 6 L.mx.m.f L.mx.m.fd ["products"] (spMx K) := ok_mx L.mx
  refine D.F.ok scRests (fun vs H Q E h => ?_) (fun cdv A outer s H vs Q E hr h => ?_)
  · obtain ⟨v, p, z, pr, zs, rfl, _⟩ := h
    rfl
  · obtain ⟨v, p, z, pr, zs, rfl, ip, lp, la, al, zl, ok, k⟩ := h
    have hr1 : Room 1 _ := hr.mono (by decide)
    have hr3 : Room 3 _ := hr.mono (by decide)
    refine ⟨_, PSs.nox (pss_cons (ps_set (i := 2) scRests.nd rfl (.inl rfl) (pe_lst pa_nil)) (pss_cons (ps_for PassesOwn.never rfl (pi_list (pe_meth0 (pv 1) C.cl C.mtp Gp hr1 C.p.b .nil pass0)) (pg_name (i := 3) scRests.nd rfl (.inl rfl)) (pss_cons (ps_set (i := 4) scRests.nd rfl (.inl rfl) (pe_call Gc hr3 (by rfl) L.mx.incl.p.g L.mx.incl.p.F.kp L.mx.incl.p.b .nil pass0 (pa_cons (pv 0) (pa_cons (pv 3) (pa_cons pe_int pa_nil))))) (pss_one (ps_if (pt_cmpR op_notN (pv 4) pe_non (nomark _)) (pss_one (ps_expr (pe_bm PySem.F.plainAttrs_list PySem.F.slot_list_append PySem.F.type_list_append mt_append (pv 2) (pa_cons (pe_slice sl_tupA (pv 3) (po_some (pv 4)) po_none) pa_nil)))) pss_nil)))) (pss_one (ps_ret (pe_call Gm hr (by rfl) L.mx.m.g L.mx.m.F.kp L.mx.m.b .nil pass0 (pa_cons (pv 2) pa_nil)))))), ?_⟩
    refine ⟨by show 0 ≤ sizeLine; decide, fun L0 hL => ?_⟩
    have sL := same_upd (o := .lst []) hL
    obtain ⟨dx, q0, ys, g1, g2, g3⟩ := id (la.same sL)
    refine ⟨.ref p, rfl, p, dx, _, rfl, g1, flL_no _ _ (by decide) (by decide), p, z, zs, rfl, la.same sL, fun H1 l us s1 nl hl iL => ?_⟩
    have ul := iL.len
    have gL1 := s1 _ _ (upd_same : (upd H L0 (.lst [])) L0 = _)
    have nlL : l ≠ L0 := fun e => by rw [e, upd_same] at nl; cases nl
    refine ⟨l, rfl, ⟨_, SqL.of hl⟩, for_it (walk_list (xs := us)) (fun i σ H' => ∃ ws y3 y4, σ = [some v, some (.ref p), some (.ref L0), y3, y4] ∧ H' L0 = some (.lst ws) ∧ IsL K H' ws (rsts (zs.take i) pr) ∧ IsL K H' us zs ∧ H' l = some (.lst us) ∧ Same H H') ⟨[], _, _, rfl, gL1, .nil, iL, hl, sL.trans s1⟩ (fun _ _ _ _ ⟨_, _, _, _, _, _, _, hl', _⟩ => SqL.of hl') ?_ ?_⟩
    · rintro i y σ G G' hi ⟨ws, y3, y4, rfl, gL, iW, iU, hl', sm⟩ ⟨rfl, hy⟩
      obtain ⟨q, hq, a, xs, rfl, ha, iF⟩ := iU.get i y hy
      have qm : q ∈ zs := List.mem_of_getElem? hq
      refine ⟨v, rfl, .ref a, rfl, v, .ref a, pr, q, 0, rfl, ip.mono (same_tup sm), ⟨a, xs, rfl, ha, iF⟩, Nat.zero_le _, lp, fun f hf => fok_low al ((ok q qm).2 f hf), fun G1 t1 => ?_⟩
      rw [List.drop_zero]
      have gL1 := t1 _ _ gL
      have sm1 := sm.trans t1
      have ha1 := same_tup t1 _ _ ha
      have iF1 := iF.mono (same_tup t1)
      refine ⟨_, rfl, rfl, _, rfl, ?_⟩
      have tk := rsts_take (pr := pr) hq
      cases e : rst q pr with
      | none =>
        rw [e] at tk
        refine iteF ⟨ws, _, _, rfl, gL1, ?_, iU.mono (same_tup t1), t1 _ _ hl', sm1⟩
        rw [tk]
        show IsL K G1 ws (_ ++ [])
        rw [List.append_nil]
        exact iW.mono (same_tup t1)
      | some r =>
        rw [e] at tk
        have sf := rst_suf q pr r e
        refine iteT ⟨.ref L0, rfl, .inl ⟨rfl, _, SqL.of gL1⟩, .ref a, rfl, _, rfl, _, rfl, ?_⟩
        unfold tNoPart
        refine sl_any ha1 fun G2 b t2 hb => ?_
        have gL2 := t2 _ _ gL1
        have sm2 := sm1.trans t2
        have t12 := t1.trans t2
        refine ⟨L0, ws, _, rfl, rfl, gL2, ?_, ws ++ [.ref b], _, _, rfl, upd_same, ?_, (iU.mono (same_tup t12)).mono fun c xs hx => upd_lst gL2 c xs hx, (upd_ne nlL).trans (t12 _ _ hl'), fun c o h => (upd_ne (ne_of_none h hL)).trans (sm2 _ _ h)⟩
        · have l1 := iW.len
          have l2 := rsts_few (zs.take i) pr
          rw [List.length_take] at l2
          rw [l1, sizeLine_eq]
          omega
        · rw [tk]
          have isr : IsP K G2 (.ref b) r := by
            refine ⟨b, _, rfl, hb, ?_⟩
            rw [cut_drop xs (by omega), Int.toNat_natCast]
            have := (iF1.mono (same_tup t2)).drop (q.length - r.length)
            rwa [suf_drop sf] at this
          exact ((iW.mono (same_tup t12)).app (.cons isr .nil)).mono fun c xs hx => upd_lst gL2 c xs hx
    · rintro σ G ⟨ws, y3, y4, rfl, gL, iW, iU, hl', sm⟩
      rw [ul, List.take_length] at iW
      refine ⟨.ref L0, rfl, L0, ws, _, rfl, SqL.of gL, iW, Nat.le_trans (rsts_few zs pr) zl, fun r hr' => ⟨rsts_len (fun q hq => (ok q hq).1) r hr', fun f hf => fok_low al (rsts_ok (fun q hq => (ok q hq).2) r hr' f hf)⟩, fun H' q ys' ws' s' nq hq iZ mo => ?_⟩
      exact k H' q ys' ws' (sm.trans s') (sm.free nq) hq iZ mo
theorem scDer : FnScope ["language", "word"] ["language", "word"] (defScope sDerivative) := ⟨rfl, rfl, rfl, by decide +kernel, rfl, by decide +kernel, by decide +kernel⟩
theorem ok_der (D : Df K mg "derivative" sDerivative ["language", "word"]) (Dl : Df K mg "language_of_maximal" sLanguageOfMaximal ["alphabet", "products"]) (Dr : Df K mg "rests_behind" sRestsBehind ["product", "language"]) (L : DfLa K mg) (C : DfC2 K mg) (eC : L.C = C.C) : FnOk P w K mg base CX0 10 D.f D.fd ["language", "word"] (spDer K C.C) := by
  have Gl : FnOk P w K mg base CX0 9 Dl.f Dl.fd ["alphabet", "products"] (spLom K C.C) := by rw [← eC]; exact ok_lom Dl L
  have Gal : FnOk P w K mg base CX0 1 C.a.f C.a.fd ["self"] (spLaA K C.C) := ok_laA C
  have Gr : FnOk P w K mg base CX0 7 Dr.f Dr.fd ["product", "language"] (spRests K C.C) := ok_rests Dr L C eC
  have Gs : FnOk P w K mg base CX0 1 L.sp.f L.sp.fd ["word"] (spSubw K) := ok_subw L.sp L.pr.mt
  refine D.F.ok scDer (fun vs H Q E h => ?_) (fun cdv A outer s H vs Q E hr h => ?_)
  · obtain ⟨p, x, z, zs, rfl, _⟩ := h
    rfl
  · obtain ⟨p, x, z, zs, rfl, xlow, xl, la, al, zl, ok, k⟩ := h
    have hr1 : Room 1 _ := hr.mono (by decide)
    have hr7 : Room 7 _ := hr.mono (by decide)
    refine ⟨_, (pss_one (ps_ret (pe_call Gl hr (by rfl) Dl.g Dl.F.kp Dl.b .nil pass0 (pa_cons (pe_meth0 (pv 0) C.cl C.mta Gal hr1 C.a.b .nil pass0) (pa_cons (pe_call Gr hr7 (by rfl) Dr.g Dr.F.kp Dr.b .nil pass0 (pa_cons (pe_call Gs hr1 (by rfl) L.sp.g L.sp.F.kp L.sp.b .nil pass0 (pa_cons (pv 1) pa_nil)) (pa_cons (pv 0) pa_nil))) pa_nil))))), ?_⟩
    obtain ⟨dx, q0, ys, g1, g2, g3⟩ := id la
    refine ⟨.ref p, rfl, p, dx, _, rfl, g1, flL_no _ _ (by decide) (by decide), p, z, zs, rfl, la, ?_⟩
    refine ⟨.str x, rfl, x, rfl, xl, fun H1 v s1 isv => ?_⟩
    refine ⟨.ref p, rfl, v, p, z, _, zs, rfl, isv, low_ones xlow, la.same s1, al, zl, ok, fun H2 q ys ws s2 nq hq iW mo => ?_⟩
    refine ⟨q, z, ys, ws, rfl, SqL.of hq, iW, al, fun H3 x' s3 lx => ?_⟩
    have s12 := s1.trans s2
    exact k H3 x' ws (s12.trans s3) (lx.pre s12) mo
end
end DW
/-! number_of_factors, check_factors (within the limit) -/
namespace DW
open PySem PySem.Spec PyProof.Rows L2 TL
set_option autoImplicit false
def rLnQ (K : PySem.W.Frag) (xs : List V) (H : Hp) (Q : VK) : Prop := ∃ (p : Addr) (ys : List V), xs = [V.ref p] ∧ (SqL K H p ys ∨ SqT K H p ys) ∧ Q (.int ys.length) H
def facN (zs : List (List Fc)) : Int := (zs.map fun q => (q.length : Int)).sum
def spNof (K : PySem.W.Frag) (C : Addr) : Sp := fun vs H Q _ => ∃ (p : Addr) (z : Str) (zs : List (List Fc)), vs = [.ref p] ∧ LaAt K C H p z zs ∧ zs.length ≤ 100000 ∧ ∀ H', Same H H' → Q (.int (facN zs)) H'
def spChk (K : PySem.W.Frag) (C : Addr) : Sp := fun vs H Q _ => ∃ (p : Addr) (z : Str) (zs : List (List Fc)) (m : Int), vs = [.ref p, .int m] ∧ LaAt K C H p z zs ∧ zs.length ≤ 100000 ∧ facN zs ≤ m ∧ ∀ H', Same H H' → Q .non H'
section
variable {P : Program} {w : World} {K : PySem.W.Frag} {mg : Str → Option Value} {base : Heap}
theorem scNof : FnScope ["language", "product"] ["language"] (defScope sNumberOfFactors) := ⟨rfl, rfl, rfl, by decide +kernel, rfl, by decide +kernel, by decide +kernel⟩
theorem ok_nof (D : Df K mg "number_of_factors" sNumberOfFactors ["language"]) (C : DfC2 K mg) (ml : mg "list" = none) (me : mg "len" = none) (ms : mg "sum" = none) : FnOk P w K mg base CX0 2 D.f D.fd ["language"] (spNof K C.C) := by
  have Gp : FnOk P w K mg base CX0 1 C.p.f C.p.fd ["self"] (spLaP K C.C) := ok_laP C ml
  refine D.F.ok scNof (fun vs H Q E h => ?_) (fun cdv A outer s H vs Q E hr h => ?_)
  · obtain ⟨p, z, zs, rfl, _⟩ := h
    rfl
  · obtain ⟨p, z, zs, rfl, la, zl, k⟩ := h
    refine ⟨_, (pss_one (ps_ret (pe_callB (cr_sum rfl) (by rfl) ms (by decide +kernel) (pa_cons (pe_lc (own := [("product", 1)]) (g := gName 1) rfl scNof.nd (pi_list (pe_meth0 (pv 0) C.cl C.mtp Gp hr C.p.b .nil pass0)) (blkOk_by (N := ["language", "product"]) (sc := defScope sNumberOfFactors) (by decide +kernel)) (fun _ _ _ _ _ => pg_name (i := 1) scNof.nd rfl (Or.inl rfl)) (fun _ _ _ _ _ => pts_nil) (fun _ _ _ _ _ => (pe_callB (r := rLnQ K) call_len_seq (by rfl) me PySem.boot_len (pa_cons (pv 1) pa_nil)))) pa_nil)))), ?_⟩
    obtain ⟨dx, q0, ys, g1, g2, g3⟩ := id la
    refine ⟨.ref p, rfl, p, dx, _, rfl, g1, flL_no _ _ (by decide) (by decide), p, z, zs, rfl, la, fun H1 l us s1 nl hl iL => ?_⟩
    have ul := iL.len
    refine ⟨l, rfl, ⟨_, SqL.of hl⟩, fun L0 hL => ?_⟩
    refine lc_it (walk_list (xs := us)) (fun i H' => H' L0 = some (.lst (((zs.take i).map fun q => (q.length : Int)).map V.int)) ∧ Same H1 H') ⟨upd_same, same_upd hL⟩ (fun _ _ _ ⟨_, sm⟩ => SqL.of (sm _ _ hl)) ?_ ?_
    · rintro i y G G' hi ⟨gL, sm⟩ ⟨rfl, hy⟩
      obtain ⟨q, hq, a, xs, rfl, ha, iF⟩ := iL.get i y hy
      refine ⟨rfl, yes ⟨_, rfl, a, xs, rfl, .inr (same_tup sm _ _ ha), _, gL, ?_, ?_, fun c o e => (upd_ne (ne_of_none e hL)).trans (sm _ _ e)⟩⟩
      · rw [List.length_map, List.length_map, List.length_take, sizeLine_eq]
        omega
      · rw [upd_same, List.take_add_one, hq, List.map_append, List.map_append, iF.len]
        rfl
    · rintro G ⟨gL, sm⟩
      rw [ul, List.take_length] at gL
      exact ⟨L0, _, rfl, SqL.of gL, k _ (s1.trans sm)⟩
theorem scChk : FnScope ["language", "limit"] ["language", "limit"] (defScope sCheckFactors) := ⟨rfl, rfl, rfl, by decide +kernel, rfl, by decide +kernel, by decide +kernel⟩
theorem ok_chk (D : Df K mg "check_factors" sCheckFactors ["language", "limit"]) (Dn : Df K mg "number_of_factors" sNumberOfFactors ["language"]) (C : DfC2 K mg) (ml : mg "list" = none) (me : mg "len" = none) (ms : mg "sum" = none) : FnOk P w K mg base CX0 3 D.f D.fd ["language", "limit"] (spChk K C.C) := by
  have Gn : FnOk P w K mg base CX0 2 Dn.f Dn.fd ["language"] (spNof K C.C) := ok_nof Dn C ml me ms
  refine D.F.ok scChk (fun vs H Q E h => ?_) (fun cdv A outer s H vs Q E hr h => ?_)
  · obtain ⟨p, z, zs, m, rfl, _⟩ := h
    rfl
  · obtain ⟨p, z, zs, m, rfl, la, zl, fm, k⟩ := h
    refine ⟨_, (pss_one (ps_if (pt_cmpR op_gt (pe_call Gn hr (by rfl) Dn.g Dn.F.kp Dn.b .nil pass0 (pa_cons (pv 0) pa_nil)) (pv 1) (nomark _)) (pss_one ps_never) pss_nil)), ?_⟩
    refine ⟨.ref p, rfl, p, z, zs, rfl, la, zl, fun H1 s1 => ?_⟩
    refine ⟨.int m, rfl, _, _, rfl, rfl, _, rfl, ?_⟩
    rw [decide_eq_false (by omega)]
    exact iteF (k _ s1)
end
end DW
/-! automaton -/
namespace DW
open PySem PySem.Spec PyProof.Rows L2 TL
set_option autoImplicit false
def oV : Option Nat → V
  | none => .non
  | some k => .int (k : Int)
inductive IsRows (K : PySem.W.Frag) (H : Hp) : List V → List (List (Option Nat)) → Prop where
  | nil : IsRows K H [] []
  | cons {a : Addr} {row : List (Option Nat)} {vs : List V} {rows : List (List (Option Nat))} (h : SqT K H a (row.map oV)) (r : IsRows K H vs rows) : IsRows K H (.ref a :: vs) (row :: rows)
theorem IsRows.mono {K : PySem.W.Frag} {H H' : Hp} (m : ∀ b xs, SqT K H b xs → SqT K H' b xs) : ∀ {vs : List V} {rows : List (List (Option Nat))}, IsRows K H vs rows → IsRows K H' vs rows
  | _, _, .nil => .nil
  | _, _, .cons h r => .cons (m _ _ h) (r.mono m)
theorem IsRows.len {K : PySem.W.Frag} {H : Hp} : ∀ {vs : List V} {rows : List (List (Option Nat))}, IsRows K H vs rows → vs.length = rows.length
  | _, _, .nil => rfl
  | _, _, .cons _ r => congrArg Nat.succ r.len
theorem IsRows.snoc {K : PySem.W.Frag} {H : Hp} {a : Addr} {row : List (Option Nat)} : ∀ {vs : List V} {rows : List (List (Option Nat))}, IsRows K H vs rows → SqT K H a (row.map oV) → IsRows K H (vs ++ [.ref a]) (rows ++ [row])
  | _, _, .nil, h => .cons h .nil
  | _, _, .cons h r, h' => .cons h (r.snoc h')
theorem IsRows.get {K : PySem.W.Frag} {H : Hp} : ∀ {vs : List V} {rows : List (List (Option Nat))}, IsRows K H vs rows → ∀ (i : Nat) (v : V), vs[i]? = some v → ∃ a row, v = .ref a ∧ rows[i]? = some row ∧ SqT K H a (row.map oV)
  | _, _, .nil, i, v, h => by cases h
  | _, _, .cons h r, 0, v, e => by
    cases e
    exact ⟨_, _, rfl, rfl, h⟩
  | _, _, .cons h r, i + 1, v, e => r.get i v e
/-- Languages whose lists are none of some addresses -/
inductive IsSt (K : PySem.W.Frag) (C : Addr) (H : Hp) (z : Str) (N : List Addr) : List V → List (List (List Fc)) → Prop where
  | nil : IsSt K C H z N [] []
  | cons {p dx q : Addr} {ys vs : List V} {s : List (List Fc)} {S : List (List (List Fc))} (h1 : H p = some (.ins C dx (flL z q))) (h2 : H q = some (.lst ys)) (h3 : IsL K H ys s) (h4 : q ∉ N) (r : IsSt K C H z N vs S) : IsSt K C H z N (.ref p :: vs) (s :: S)
section
variable {K : PySem.W.Frag} {C : Addr} {z : Str}
theorem IsSt.len {H : Hp} {N : List Addr} : ∀ {vs : List V} {S : List (List (List Fc))}, IsSt K C H z N vs S → vs.length = S.length
  | _, _, .nil => rfl
  | _, _, .cons _ _ _ _ r => congrArg Nat.succ r.len
theorem IsSt.get {H : Hp} {N : List Addr} : ∀ {vs : List V} {S : List (List (List Fc))}, IsSt K C H z N vs S → ∀ (i : Nat) (s : List (List Fc)), S[i]? = some s → ∃ p, vs[i]? = some (.ref p) ∧ LaAt K C H p z s
  | _, _, .nil, i, v, h => by cases h
  | _, _, .cons h1 h2 h3 _ r, 0, v, e => by
    cases e
    exact ⟨_, rfl, ⟨_, _, _, h1, h2, h3⟩⟩
  | _, _, .cons _ _ _ _ r, i + 1, v, e => r.get i v e
theorem IsSt.same {H H' : Hp} {N : List Addr} (sm : Same H H') : ∀ {vs : List V} {S : List (List (List Fc))}, IsSt K C H z N vs S → IsSt K C H' z N vs S
  | _, _, .nil => .nil
  | _, _, .cons h1 h2 h3 h4 r => .cons (sm _ _ h1) (sm _ _ h2) (h3.mono (same_tup sm)) h4 (r.same sm)
theorem IsSt.put {H : Hp} {N : List Addr} {b : Addr} {u o : HO} (hb : H b = some u) (n1 : ∀ C dx fs, u ≠ .ins C dx fs) (hN : b ∈ N) (m : ∀ c xs, SqT K H c xs → SqT K (upd H b o) c xs) : ∀ {vs : List V} {S : List (List (List Fc))}, IsSt K C H z N vs S → IsSt K C (upd H b o) z N vs S
  | _, _, .nil => .nil
  | _, _, .cons h1 h2 h3 h4 r => .cons ((upd_ne (ne_of h1 hb (fun z => n1 _ _ _ z.symm))).trans h1) ((upd_ne (fun e => h4 (by rw [e]; exact hN))).trans h2) (h3.mono m) h4 (r.put hb n1 hN m)
theorem IsSt.snoc {H : Hp} {N : List Addr} {p dx q : Addr} {ys : List V} {s : List (List Fc)} (h1 : H p = some (.ins C dx (flL z q))) (h2 : H q = some (.lst ys)) (h3 : IsL K H ys s) (h4 : q ∉ N) : ∀ {vs : List V} {S : List (List (List Fc))}, IsSt K C H z N vs S → IsSt K C H z N (vs ++ [.ref p]) (S ++ [s])
  | _, _, .nil => .cons h1 h2 h3 h4 .nil
  | _, _, .cons a b c d r => .cons a b c d (r.snoc h1 h2 h3 h4)
theorem IsSt.off {H : Hp} {N N' : List Addr} (h : ∀ q o, H q = some o → q ∉ N → q ∉ N') : ∀ {vs : List V} {S : List (List (List Fc))}, IsSt K C H z N vs S → IsSt K C H z N' vs S
  | _, _, .nil => .nil
  | _, _, .cons h1 h2 h3 h4 r => .cons h1 h2 h3 (h _ _ h2 h4) (r.off h)
end
/-! ### the dict of numbers -/
def numsF (z : Str) : Nat → List (List (List Fc)) → List (Key × V)
  | _, [] => []
  | n, s :: r => (.inr (lstr z s), .int (n : Int)) :: numsF z (n + 1) r
theorem numsF_len (z : Str) : ∀ (S : List (List (List Fc))) (n : Nat), (numsF z n S).length = S.length
  | [], _ => rfl
  | _ :: r, n => congrArg Nat.succ (numsF_len z r (n + 1))
theorem numsF_snoc (z : Str) (x : List (List Fc)) : ∀ (S : List (List (List Fc))) (n : Nat), numsF z n (S ++ [x]) = numsF z n S ++ [(.inr (lstr z x), .int ((n + S.length : Nat) : Int))]
  | [], n => rfl
  | s :: r, n => by
    show _ :: numsF z (n + 1) (r ++ [x]) = _
    rw [numsF_snoc z x r (n + 1)]
    show _ :: (_ ++ _) = _ :: (_ ++ _)
    rw [show n + 1 + r.length = n + (s :: r).length by rw [List.length_cons]; omega]
theorem numsF_any {z : Str} (al : Alph z) {ws : List (List Fc)} (ow : ∀ q ∈ ws, ∀ f ∈ q, FOk z f) : ∀ (S : List (List (List Fc))) (n : Nat), (∀ s ∈ S, ∀ q ∈ s, ∀ f ∈ q, FOk z f) → ws ∉ S → ((numsF z n S).any fun kv => decide (kv.1 = .inr (lstr z ws))) = false
  | [], _, _, _ => rfl
  | s :: r, n, os, h => by
    show (decide (_ = _) || _) = false
    have ne : ¬ ((Sum.inr (lstr z s) : Key) = .inr (lstr z ws)) := fun e => h (by
      rw [lstr_inj al (os s List.mem_cons_self) ow (Sum.inr.inj e)]
      exact List.mem_cons_self)
    rw [decide_eq_false ne, Bool.false_or]
    exact numsF_any al ow r (n + 1) (fun s hs => os s (List.mem_cons_of_mem _ hs)) fun e => h (List.mem_cons_of_mem _ e)
theorem numsF_none {z : Str} (al : Alph z) {ws : List (List Fc)} (ow : ∀ q ∈ ws, ∀ f ∈ q, FOk z f) {S : List (List (List Fc))} {n : Nat} (os : ∀ s ∈ S, ∀ q ∈ s, ∀ f ∈ q, FOk z f) (h : ws ∉ S) : valV (numsF z n S) (.inr (lstr z ws)) = none := by
  have := numsF_any al ow S n os h
  unfold valV
  rw [List.find?_eq_none.mpr fun x hx => ?_]
  · rfl
  · rw [List.any_eq_false] at this
    exact this x hx
theorem numsF_put {z : Str} (al : Alph z) {ws : List (List Fc)} (ow : ∀ q ∈ ws, ∀ f ∈ q, FOk z f) {S : List (List (List Fc))} (os : ∀ s ∈ S, ∀ q ∈ s, ∀ f ∈ q, FOk z f) (h : ws ∉ S) : putK (numsF z 0 S) (.inr (lstr z ws)) (.int (S.length : Int)) = numsF z 0 (S ++ [ws]) := by
  unfold putK
  rw [numsF_any al ow S 0 os h, if_neg (by simp), numsF_snoc, Nat.zero_add]
theorem numsF_some {z : Str} (al : Alph z) {ws : List (List Fc)} (ow : ∀ q ∈ ws, ∀ f ∈ q, FOk z f) : ∀ (S : List (List (List Fc))) (n k : Nat), (∀ s ∈ S, ∀ q ∈ s, ∀ f ∈ q, FOk z f) → S.Nodup → S[k]? = some ws → valV (numsF z n S) (.inr (lstr z ws)) = some (.int ((n + k : Nat) : Int))
  | [], _, k, _, _, h => by cases h
  | s :: r, n, 0, os, nd, h => by
    cases h
    exact valV_pos rfl
  | s :: r, n, k + 1, os, nd, h => by
    have h : r[k]? = some ws := h
    have ne : ¬ ((Sum.inr (lstr z s) : Key) = .inr (lstr z ws)) := fun e => by
      have := lstr_inj al (os s List.mem_cons_self) ow (Sum.inr.inj e)
      rw [this] at nd
      exact (List.nodup_cons.mp nd).1 (List.mem_of_getElem? h)
    have q := numsF_some al ow r (n + 1) k (fun s hs => os s (List.mem_cons_of_mem _ hs)) (List.nodup_cons.mp nd).2 h
    show valV (_ :: numsF z (n + 1) r) _ = _
    unfold valV at q ⊢
    rw [List.find?_cons_of_neg (by simpa using ne), q]
    rw [show n + 1 + k = n + (k + 1) by omega]
theorem Au0.see {z : Str} {zs : List (List Fc)} {S : List (List (List Fc))} {rows : List (List (Option Nat))} {es es' : List (Option Nat)} (A : Au0 z zs S rows es) (h : Seen es' S.length) : Au0 z zs S rows es' := ⟨A.ln, A.hd, A.can, A.nd, A.few, A.short, A.nx, A.wd, h⟩
theorem Au0.row {z : Str} {zs : List (List Fc)} {S : List (List (List Fc))} {rows : List (List (Option Nat))} {es : List (Option Nat)} {s : List (List Fc)} {row : List (Option Nat)} (A : Au0 z zs S rows es) (hs : S[rows.length]? = some s) (R : RowOf S s (tl z) row) : Au0 z zs S (rows ++ [row]) es := by
  refine ⟨by rw [List.length_append]; exact (List.getElem?_eq_some_iff.mp hs).1, A.hd, A.can, A.nd, A.few, A.short, fun i x r hx hr => ?_, A.wd, A.ord⟩
  rcases Nat.lt_or_ge i rows.length with lt | ge
  · rw [List.getElem?_append_left lt] at hr
    exact A.nx i x r hx hr
  · have e0 : i = rows.length := by
      have := (List.getElem?_eq_some_iff.mp hr).1
      rw [List.length_append] at this
      have : i < rows.length + 1 := this
      omega
    subst e0
    rw [List.getElem?_append_right (Nat.le_refl _), Nat.sub_self] at hr
    cases hr
    rw [hs] at hx
    cases hx
    exact R
/-- the automaton, all rows done -/
structure Au (z : Str) (zs : List (List Fc)) (S : List (List (List Fc))) (rows : List (List (Option Nat))) : Prop extends Au0 z zs S rows rows.flatten where
  full : rows.length = S.length
def spAut (K : PySem.W.Frag) (C : Addr) : Sp := fun vs H Q _ => ∃ (p : Addr) (z : Str) (zs : List (List Fc)), vs = [.ref p] ∧ LaAt K C H p z zs ∧ Alph z ∧ Can z zs ∧ facN zs ≤ 24 ∧ zs.length ≤ 1000 ∧ (∀ q ∈ zs, q.length ≤ 100) ∧ prodN zs ≤ 1000000 ∧
  ∀ H' q us rows, Same H H' → H q = none → H' q = some (.lst us) → IsRows K H' us rows → (zs = [] → rows = []) → (zs ≠ [] → ∃ S, Au z zs S rows) → Q (.ref q) H'
theorem flat_le {n : Nat} : ∀ {l : List (List Fc)}, (∀ q ∈ l, q.length ≤ n) → l.flatten.length ≤ n * l.length
  | [], _ => Nat.le_refl _
  | q :: r, h => by
    have h1 := h q List.mem_cons_self
    have h2 := flat_le fun x hx => h x (List.mem_cons_of_mem _ hx)
    rw [List.flatten_cons, List.length_append, List.length_cons, Nat.mul_add, Nat.mul_one]
    omega
theorem upd_dK {K : PySem.W.Frag} {H : Hp} {D : Addr} {kvs : List (Key × V)} {o : HO} (hD : H D = some (.dK kvs)) (b : Addr) (xs : List V) (h : SqT K H b xs) : SqT K (upd H D o) b xs := by
  rcases h with (h | ⟨v, h⟩) | h
  · exact .inl (.inl ((upd_ne (ne_of h hD (by intro z; cases z))).trans h))
  · exact .inl (.inr ⟨v, (upd_ne (ne_of h hD (by intro z; cases z))).trans h⟩)
  · exact .inr h
section
variable {P : Program} {w : World} {K : PySem.W.Frag} {mg : Str → Option Value} {base : Heap}
structure DfAut (K : PySem.W.Frag) (mg : Str → Option Value) where
  a : Df K mg "automaton" sAutomaton ["language"]
  k : Df K mg "check_factors" sCheckFactors ["language", "limit"]
  n : Df K mg "number_of_factors" sNumberOfFactors ["language"]
  d : Df K mg "derivative" sDerivative ["language", "word"]
  m : Df K mg "language_of_maximal" sLanguageOfMaximal ["alphabet", "products"]
  r : Df K mg "rests_behind" sRestsBehind ["product", "language"]
  L : DfLa K mg
  C : DfC2 K mg
  eC : L.C = C.C
  f : DfFps K mg
  ms : mg "sum" = none
  mc : ∃ t, mg "COUNTING_LIMIT" = some (.int 24 t)
theorem scAut : FnScope ["language", "states", "numbers", "rows", "row", "letter", "after", "form"] ["language"] (defScope sAutomaton) := ⟨rfl, rfl, rfl, by decide +kernel, rfl, by decide +kernel, by decide +kernel⟩
theorem ok_aut (D : DfAut K mg) : FnOk P w K mg base CX0 11 D.a.f D.a.fd ["language"] (spAut K D.C.C) := by
  have Gk : FnOk P w K mg base CX0 3 D.k.f D.k.fd ["language", "limit"] (spChk K D.C.C) := ok_chk D.k D.n D.C D.L.mli D.L.pr.ml D.ms
  have Ge : FnOk P w K mg base CX0 1 D.C.e.f D.C.e.fd ["self"] (spLaE K D.C.C) := ok_laE D.C D.L.pr.ml
  have Gal : FnOk P w K mg base CX0 1 D.C.a.f D.C.a.fd ["self"] (spLaA K D.C.C) := ok_laA D.C
  have Gt : FnOk P w K mg base CX0 4 D.C.s.f D.C.s.fd ["self"] (spLaS K D.C.C) := ok_laS D.C D.f
  have Gd : FnOk P w K mg base CX0 10 D.d.f D.d.fd ["language", "word"] (spDer K D.C.C) := ok_der D.d D.m D.r D.L D.C D.eC
  have mc : ∃ u, mg "COUNTING_LIMIT" = some u ∧ RelV (.int 24) u := by
    obtain ⟨t, e⟩ := D.mc
    exact ⟨_, e, t, rfl⟩
  refine D.a.F.ok scAut (fun vs H Q E h => ?_) (fun cdv A outer s H vs Q E hr h => ?_)
  · obtain ⟨p, z, zs, rfl, _⟩ := h
    rfl
  · obtain ⟨p, z, zs, rfl, la, al, can, fac, zl, ql, pn, k⟩ := h
    have hr1 : Room 1 _ := hr.mono (by decide)
    have hr3 : Room 3 _ := hr.mono (by decide)
    have hr6 : Room 6 _ := hr.mono (by decide)
    have hu : _ + 1 < cLine := Nat.lt_of_le_of_lt (Nat.add_le_add_left (by decide : 1 ≤ 9) _) (u9 hr)
    refine ⟨_, PSs.nox (pss_cons (ps_expr (pe_call Gk hr3 (by rfl) D.k.g D.k.F.kp D.k.b .nil pass0 (pa_cons (pv 0) (pa_cons (C8.pe_gc (by rfl) mc) pa_nil)))) (pss_cons (ps_if (pt_val (pe_meth0 (pv 0) D.C.cl D.C.mte Ge hr1 D.C.e.b .nil pass0)) (pss_one (ps_ret (pe_lst pa_nil))) pss_nil) (pss_cons (ps_set (i := 1) scAut.nd rfl (.inl rfl) (pe_lst (pa_cons (pv 0) pa_nil))) (pss_cons (ps_set (i := 2) scAut.nd rfl (.inl rfl) (pe_disp (pps_cons (pe_callTy (OQ.call_strO Gt D.C.mts D.C.s.b (E := E0) pass0 hr6) (by rfl) D.L.pr.ms (by decide +kernel) (pa_cons (pv 0) pa_nil)) pe_int pps_nil) (by rfl) (by rfl) (fun z => by cases z) (by decide))) (pss_cons (ps_set (i := 3) scAut.nd rfl (.inl rfl) (pe_lst pa_nil)) (pss_cons (ps_while PassesOwn.never (pt_cmpR op_lt (pe_callB call_len_seq (by rfl) D.L.pr.ml PySem.boot_len (pa_cons (pv 3) pa_nil)) (pe_callB call_len_seq (by rfl) D.L.pr.ml PySem.boot_len (pa_cons (pv 1) pa_nil)) (nomark _)) (pss_cons (ps_set (i := 4) scAut.nd rfl (.inl rfl) (pe_lst pa_nil)) (pss_cons (ps_for PassesOwn.never rfl (pi_str (pe_meth0 (pv 0) D.C.cl D.C.mta Gal hr1 D.C.a.b .nil pass0)) (pg_name (i := 5) scAut.nd rfl (.inl rfl)) (pss_cons (ps_set (i := 6) scAut.nd rfl (.inl rfl) (pe_call Gd hr (by rfl) D.d.g D.d.F.kp D.d.b .nil pass0 (pa_cons (pe_ix ix_list (pv 1) (pe_callB call_len_seq (by rfl) D.L.pr.ml PySem.boot_len (pa_cons (pv 3) pa_nil)) (fun _ _ => rfl)) (pa_cons (pv 5) pa_nil)))) (pss_cons (ps_set (i := 7) scAut.nd rfl (.inl rfl) (pe_callTy (OQ.call_strO Gt D.C.mts D.C.s.b (E := E0) pass0 hr6) (by rfl) D.L.pr.ms (by decide +kernel) (pa_cons (pv 6) pa_nil))) (pss_cons (ps_if (pw_and (pt_cmp (pc_dnotin hu (pv 7) (pv 2))) (pw_and1 (pt_not (pt_val (pe_meth0 (pv 6) D.C.cl D.C.mte Ge hr1 D.C.e.b .nil pass0))))).pt (pss_cons (ps_dput hu (pv 2) (pv 7) (pe_callB call_len_seq (by rfl) D.L.pr.ml PySem.boot_len (pa_cons (pv 1) pa_nil)) rfl) (pss_one (ps_expr (pe_bm PySem.F.plainAttrs_list PySem.F.slot_list_append PySem.F.type_list_append mt_append (pv 1) (pa_cons (pv 6) pa_nil))))) pss_nil) (pss_one (ps_expr (pe_bm PySem.F.plainAttrs_list PySem.F.slot_list_append PySem.F.type_list_append mt_append (pv 4) (pa_cons (pe_dget1 hu (pv 2) (pv 7) ⟨by rfl, by rfl, by rfl, by rfl⟩) pa_nil)))))))) (pss_one (ps_expr (pe_bm PySem.F.plainAttrs_list PySem.F.slot_list_append PySem.F.type_list_append mt_append (pv 3) (pa_cons (pe_callTy call_tuple_of (by rfl) D.L.pr.mt (by decide +kernel) (pa_cons (pv 4) pa_nil)) pa_nil))))))) (pss_one (ps_ret (pv 3))))))))), ?_⟩
    refine ⟨.ref p, rfl, p, z, zs, 24, rfl, la, by omega, fac, fun H1 s1 => ?_⟩
    have la1 := la.same s1
    obtain ⟨dx, q0, ys, g1, g2, g3⟩ := id la1
    refine ⟨.ref p, rfl, p, dx, _, rfl, g1, flL_no _ _ (by decide) (by decide), p, z, zs, rfl, la1, _, rfl, ?_⟩
    by_cases ez : zs = []
    · rw [decide_eq_true ez]
      refine iteT ⟨by show 0 ≤ sizeLine; decide, fun l hl => ?_⟩
      exact k _ l [] [] (s1.trans (same_upd hl)) (s1.free hl) upd_same .nil (fun _ => rfl) (fun ne => absurd ez ne)
    rw [decide_eq_false ez]
    refine iteF ?_
    -- states, numbers, rows
    refine ⟨.ref p, rfl, by show 1 ≤ sizeLine; decide, fun sA hsA => ?_⟩
    have sA1 := same_upd (o := .lst [V.ref p]) hsA
    have g1A := sA1 _ _ g1
    refine fun nD hnD => ?_
    have sD := same_upd (o := .dK []) hnD
    have flz := flat_le ql
    refine ⟨.ref p, rfl, p, dx, _, rfl, sD _ _ g1A, p, z, zs, rfl, (la1.same sA1).same sD, al, can.ok, by omega, by omega, fun q hq => Nat.le_trans (ql q hq) (by decide), fun H2 s2 => ⟨_, rfl, ?_⟩⟩
    refine ⟨s2 _ _ upd_same, [(.inr (lstr z zs), .int 0)], rfl, by show 1 ≤ 15; decide, ?_⟩
    have em : mergeK [] [((.inr (lstr z zs) : Key), V.int 0)] = numsF z 0 [zs] := rfl
    rw [em]
    have nsD : sA ≠ nD := fun e => by rw [← e, upd_same] at hnD; cases hnD
    have sD2 : Same (upd H1 sA (.lst [V.ref p])) (upd H2 nD (.dK (numsF z 0 [zs]))) := fun b o e => (upd_ne (ne_of_none e hnD)).trans (s2 _ _ (sD _ _ e))
    refine ⟨by show 0 ≤ sizeLine; decide, fun rL hrL => ?_⟩
    have sR := same_upd (o := .lst []) hrL
    have nrD : rL ≠ nD := fun e => by rw [e, upd_same] at hrL; cases hrL
    have nrA : rL ≠ sA := fun e => by rw [e] at hrL; rw [sD2 _ _ upd_same] at hrL; cases hrL
    have fA : H sA = none := s1.free hsA
    have fD : H nD = none := s1.free (sA1.free hnD)
    have fR : H rL = none := s1.free (sA1.free (sD2.free hrL))
    have s0 : Same H (upd (upd H2 nD (.dK (numsF z 0 [zs]))) rL (.lst [])) := s1.trans (sA1.trans (sD2.trans sR))
    -- the loop
    refine ⟨fun m σ' H' => ∃ (st us : List V) (S : List (List (List Fc))) (rows : List (List (Option Nat))) (y4 y5 y6 y7 : Option V), σ' = [some (.ref p), some (.ref sA), some (.ref nD), some (.ref rL), y4, y5, y6, y7] ∧ H' sA = some (.lst st) ∧ IsSt K D.C.C H' z [sA, nD, rL] st S ∧ st[0]? = some (.ref p) ∧ H' nD = some (.dK (numsF z 0 S)) ∧ H' rL = some (.lst us) ∧ IsRows K H' us rows ∧ Au0 z zs S rows rows.flatten ∧ Same H H' ∧ m = prodN zs - rows.length, ⟨_, [.ref p], [], [zs], [], _, _, _, _, rfl, (sD2.trans sR) _ _ upd_same, .cons ((sA1.trans (sD2.trans sR)) _ _ g1) ((sA1.trans (sD2.trans sR)) _ _ g2) ((g3.mono (same_tup (sA1.trans (sD2.trans sR))))) (fun e => ?_) .nil, rfl, sR _ _ upd_same, upd_same, .nil, Au0.start can ez, s0, rfl⟩, ?_⟩
    · simp only [List.mem_cons, List.not_mem_nil, or_false] at e
      rcases e with e | e | e
      · rw [← e, g2] at hsA; cases hsA
      · rw [← e, sA1 _ _ g2] at hnD; cases hnD
      · rw [← e, (sA1.trans sD2) _ _ g2] at hrL; cases hrL
    rintro m σ' H3 ⟨st, us, S, rows, y4, y5, y6, y7, rfl, hA, iS, h0, hN, hR, iR, au, sm, rfl⟩
    have bd := au.bound al
    have usl := iR.len
    have stl := iS.len
    refine ⟨.ref rL, rfl, rL, us, rfl, .inl (SqL.of hR), .ref sA, rfl, sA, st, rfl, .inl (SqL.of hA), _, _, rfl, rfl, _, rfl, ite2 (fun e => ?_) (fun e => ?_)⟩
    · have lt : rows.length < S.length := by
        have := of_decide_eq_true e
        omega
      refine ⟨fun σ' H' => ∃ (st us : List V) (S : List (List (List Fc))) (rows' : List (List (Option Nat))) (y4 y5 y6 y7 : Option V), σ' = [some (.ref p), some (.ref sA), some (.ref nD), some (.ref rL), y4, y5, y6, y7] ∧ H' sA = some (.lst st) ∧ IsSt K D.C.C H' z [sA, nD, rL] st S ∧ st[0]? = some (.ref p) ∧ H' nD = some (.dK (numsF z 0 S)) ∧ H' rL = some (.lst us) ∧ IsRows K H' us rows' ∧ Au0 z zs S rows' rows'.flatten ∧ Same H H' ∧ rows'.length = rows.length + 1, ?_, ?_⟩
      · rintro σ' H' ⟨st, us, S', rows', y4, y5, y6, y7, e1, e2, e3, e3', e4, e5, e6, e7, e8, e9⟩
        exact ⟨prodN zs - rows'.length, by omega, st, us, S', rows', y4, y5, y6, y7, e1, e2, e3, e3', e4, e5, e6, e7, e8, rfl⟩
      -- one row
      obtain ⟨s0', hs0⟩ : ∃ s, S[rows.length]? = some s := ⟨_, List.getElem?_eq_getElem lt⟩
      refine ⟨by show 0 ≤ sizeLine; decide, fun rw' hrw => ?_⟩
      have sW := same_upd (o := .lst []) hrw
      have nwA : rw' ≠ sA := fun e => by rw [e, hA] at hrw; cases hrw
      have nwD : rw' ≠ nD := fun e => by rw [e, hN] at hrw; cases hrw
      have nwR : rw' ≠ rL := fun e => by rw [e, hR] at hrw; cases hrw
      have fW : H rw' = none := sm.free hrw
      have laP : ∀ {H' : Hp} {N : List Addr} {st : List V} {S : List (List (List Fc))}, IsSt K D.C.C H' z N st S → st[0]? = some (.ref p) → S[0]? = some zs → LaAt K D.C.C H' p z zs := fun iS h0 hd => by
        obtain ⟨p0, hp0, lap⟩ := iS.get 0 zs hd
        rw [h0] at hp0
        cases hp0
        exact lap
      have laW := laP (iS.same sW) h0 au.hd
      obtain ⟨dx1, q1, v1, e1, _, _⟩ := id laW
      refine ⟨.ref p, rfl, p, dx1, _, rfl, e1, flL_no _ _ (by decide) (by decide), p, z, zs, rfl, laW, ?_⟩
      refine ⟨z, rfl, for_it (walk_str (z := z)) (fun j σ H' => ∃ (st : List V) (S : List (List (List Fc))) (row : List (Option Nat)) (y5 y6 y7 : Option V), σ = [some (.ref p), some (.ref sA), some (.ref nD), some (.ref rL), some (.ref rw'), y5, y6, y7] ∧ H' sA = some (.lst st) ∧ IsSt K D.C.C H' z [rw', sA, nD, rL] st S ∧ st[0]? = some (.ref p) ∧ H' nD = some (.dK (numsF z 0 S)) ∧ H' rL = some (.lst us) ∧ IsRows K H' us rows ∧ H' rw' = some (.lst (row.map oV)) ∧ Au0 z zs S rows (rows.flatten ++ row) ∧ S[rows.length]? = some s0' ∧ RowOf S s0' ((tl z).take j) row ∧ Same H H')
        ⟨st, S, [], _, _, _, rfl, sW _ _ hA, (iS.off fun q o hq hn e => ?_).same sW, h0, sW _ _ hN, sW _ _ hR, iR.mono (same_tup sW), upd_same, by rw [List.append_nil]; exact au, hs0, ⟨rfl, fun j c h => by simp at h⟩, sm.trans sW⟩ (fun _ _ _ _ _ => trivial) ?_ ?_⟩
      · rcases List.mem_cons.mp e with e | e
        · rw [e, hrw] at hq; cases hq
        · exact hn e
      · clear iS hA h0 hN hR iR au sm lt hs0 laW e1 bd stl
        rintro j v σ G G' hj ⟨st, S, row, y5, y6, y7, rfl, hA, iS, h0, hN, hR, iR, hW, au, hs, ro, sm⟩ ⟨rfl, c, hc, rfl⟩
        have hc' : (tl z)[j]? = some c := by simpa using hc
        have cm : c ∈ tl z := List.mem_of_getElem? hc'
        have cl := al.2.2.2 c cm
        have bd := au.bound al
        have stl := iS.len
        have s0m := List.mem_of_getElem? hs
        have Cs := (au.can s0' s0m).1
        have few0 := au.few s0' s0m
        have sh0 := au.short 100 ql s0' s0m
        obtain ⟨ps, hps, laS⟩ := iS.get _ _ hs
        refine ⟨.ref sA, rfl, .ref rL, rfl, rL, us, rfl, .inl (SqL.of hR), sA, st, _, .ref ps, rfl, rfl, SqL.of hA, atI_of (by rw [usl]) hps, .str (one c), rfl, ?_⟩
        refine ⟨ps, one c, z, s0', rfl, fun d hd => by rw [List.mem_singleton.mp hd]; omega, by show 1 ≤ 100000; decide, laS, al, by omega, fun q hq => ⟨Nat.le_trans (sh0 q hq) (by decide), Cs.ok q hq⟩, fun G1 x' ws t1 lnw mo => ?_⟩
        have eo : ones (tl (one c)) = ones [c] := rfl
        rw [eo] at mo
        have okr := rsts_ok (p := ones [c]) Cs.ok
        have Cw := mo.can al okr
        have fw := Nat.le_trans (mo.few al okr) (Nat.le_trans (rsts_few _ _) few0)
        have sw' := mo.short (rsts_len (p := ones [c]) sh0)
        have dl := der_lang Cs mo
        have flw := flat_le sw'
        have law := lnw.at
        obtain ⟨dw, qw, yw, w1, w2, w3, w4, w5⟩ := id lnw
        have fq : ∀ b o, G' b = some o → qw ≠ b := fun b o h e => by
          rw [← e, w4] at h
          cases h
        have nqW := fq _ _ hW
        have nqA := fq _ _ hA
        have nqR := fq _ _ hR
        refine ⟨.ref x', rfl, x', dw, _, rfl, w1, x', z, ws, rfl, law, al, Cw.ok, by omega, by omega, fun q hq => Nat.le_trans (sw' q hq) (by decide), fun G2 t2 => ⟨_, rfl, ?_⟩⟩
        have t12 := t1.trans t2
        have hA := t12 _ _ hA
        have hN := t12 _ _ hN
        have hR := t12 _ _ hR
        have hW := t12 _ _ hW
        have iS := iS.same t12
        have iR := iR.mono (same_tup t12)
        have sm := sm.trans t12
        have w1 := t2 _ _ w1
        have w2 := t2 _ _ w2
        have w3 := w3.mono (same_tup t2)
        have law := law.same t2
        have oS : ∀ s ∈ S, ∀ q ∈ s, ∀ f ∈ q, FOk z f := fun s hs => (au.can s hs).1.ok
        have rl : row.length ≤ 3 := by
          have := ro.len
          rw [List.length_take] at this
          have := al.2.2.1
          omega
        have tk : (tl z).take (j + 1) = (tl z).take j ++ [c] := by rw [List.take_add_one, hc']; rfl
        refine ⟨.str (lstr z ws), rfl, .ref nD, rfl, nD, _, rfl, DGet.k (k := .inr (lstr z ws)) hN, _, rfl, ?_⟩
        by_cases hm : ws ∈ S
        · obtain ⟨kx, hkx⟩ := List.getElem?_of_mem hm
          have ev := numsF_some al Cw.ok S 0 kx oS au.nd hkx
          rw [Nat.zero_add] at ev
          rw [ev]
          refine iteF ?_
          have sz' : (row.map oV).length < sizeLine := by rw [List.length_map, sizeLine_eq]; omega
          refine ⟨.ref rw', rfl, .inl ⟨rfl, _, SqL.of hW⟩, .ref nD, rfl, nD, rfl, .inl ⟨_, .inl hN⟩, .str (lstr z ws), rfl, _, DGet.k (k := .inr (lstr z ws)) hN, ?_⟩
          rw [ev]
          refine ⟨rw', _, _, rfl, rfl, hW, sz', ?_⟩
          have nt : ∀ b xs, SqT K G2 b xs → SqT K (upd G2 rw' (.lst (row.map oV ++ [V.int (kx : Int)]))) b xs := fun b xs h => upd_lst hW b xs h
          exact ⟨st, S, row ++ [some kx], _, _, _, rfl, (upd_ne nwA.symm).trans hA, iS.put hW (fun _ _ _ z => by cases z) List.mem_cons_self nt, h0, (upd_ne nwD.symm).trans hN, (upd_ne nwR.symm).trans hR, iR.mono nt, by rw [upd_same, List.map_append]; rfl, by rw [← List.append_assoc]; exact au.see (.old au.ord (List.getElem?_eq_some_iff.mp hkx).1), hs, by rw [tk]; exact ro.snoc (.inr ⟨kx, ws, rfl, hkx, fun u => (dl u).symm⟩), fun b o e => (upd_ne (ne_of_none e fW)).trans (sm _ _ e)⟩
        · have ev := numsF_none (n := 0) al Cw.ok oS hm
          rw [ev]
          refine iteT ?_
          refine ⟨.ref x', rfl, x', dw, _, rfl, w1, flL_no _ _ (by decide) (by decide), x', z, ws, rfl, law, _, rfl, ?_⟩
          by_cases ew : ws = []
          · rw [decide_eq_true ew]
            refine iteF ?_
            have sz' : (row.map oV).length < sizeLine := by rw [List.length_map, sizeLine_eq]; omega
            refine ⟨.ref rw', rfl, .inl ⟨rfl, _, SqL.of hW⟩, .ref nD, rfl, nD, rfl, .inl ⟨_, .inl hN⟩, .str (lstr z ws), rfl, _, DGet.k (k := .inr (lstr z ws)) hN, ?_⟩
            rw [ev]
            refine ⟨rw', _, _, rfl, rfl, hW, sz', ?_⟩
            have nt : ∀ b xs, SqT K G2 b xs → SqT K (upd G2 rw' (.lst (row.map oV ++ [V.non]))) b xs := fun b xs h => upd_lst hW b xs h
            exact ⟨st, S, row ++ [none], _, _, _, rfl, (upd_ne nwA.symm).trans hA, iS.put hW (fun _ _ _ z => by cases z) List.mem_cons_self nt, h0, (upd_ne nwD.symm).trans hN, (upd_ne nwR.symm).trans hR, iR.mono nt, by rw [upd_same, List.map_append]; rfl, by rw [← List.append_assoc]; exact au.see (.none au.ord), hs, by rw [tk]; exact ro.snoc (.inl ⟨rfl, fun u h => by
              obtain ⟨q, hq, _⟩ := (dl u).mpr h
              rw [ew] at hq
              cases hq⟩), fun b o e => (upd_ne (ne_of_none e fW)).trans (sm _ _ e)⟩
          · rw [decide_eq_false ew]
            refine iteT ?_
            refine ⟨.ref sA, rfl, sA, st, rfl, .inl (SqL.of hA), .ref nD, rfl, .str (lstr z ws), rfl, nD, _, rfl, DPut.k (k := .inr (lstr z ws)) hN (by rw [numsF_len, sizeLine_eq]; omega), ?_⟩
            rw [stl, numsF_put al Cw.ok oS hm]
            have ntD : ∀ b xs, SqT K G2 b xs → SqT K (upd G2 nD (.dK (numsF z 0 (S ++ [ws])))) b xs := fun b xs h => upd_dK hN b xs h
            have iS := iS.put (o := .dK (numsF z 0 (S ++ [ws]))) hN (fun _ _ _ z => by cases z) (List.mem_cons_of_mem _ (List.mem_cons_of_mem _ List.mem_cons_self)) ntD
            have hA := (upd_ne (o := .dK (numsF z 0 (S ++ [ws]))) nsD).trans hA
            have hR := (upd_ne (o := .dK (numsF z 0 (S ++ [ws]))) nrD).trans hR
            have hW := (upd_ne (o := .dK (numsF z 0 (S ++ [ws]))) nwD).trans hW
            have iR := iR.mono ntD
            have nx : x' ≠ nD := fun e => by rw [e, hN] at w1; cases w1
            have nq : qw ≠ nD := fun e => by rw [e, hN] at w2; cases w2
            have w1 := (upd_ne (o := .dK (numsF z 0 (S ++ [ws]))) nx).trans w1
            have w2 := (upd_ne (o := .dK (numsF z 0 (S ++ [ws]))) nq).trans w2
            have w3 := w3.mono ntD
            have hN2 : (upd G2 nD (.dK (numsF z 0 (S ++ [ws])))) nD = some (.dK (numsF z 0 (S ++ [ws]))) := upd_same
            have sm : Same H (upd G2 nD (.dK (numsF z 0 (S ++ [ws])))) := fun b o e => (upd_ne (ne_of_none e fD)).trans (sm _ _ e)
            have hA0 : st ≠ [] := fun e => by rw [e] at h0; cases h0
            generalize upd G2 nD (.dK (numsF z 0 (S ++ [ws]))) = G3 at iS hA hR hW iR w1 w2 w3 hN2 sm ⊢
            refine ⟨.ref sA, rfl, .inl ⟨rfl, _, SqL.of hA⟩, .ref x', rfl, sA, st, _, rfl, rfl, hA, by rw [stl, sizeLine_eq]; omega, ?_⟩
            have nqN : qw ∉ [rw', sA, nD, rL] := fun e => by
              simp only [List.mem_cons, List.not_mem_nil, or_false] at e
              rcases e with e | e | e | e
              · exact nqW e
              · exact nqA e
              · exact nq e
              · exact nqR e
            have ntA : ∀ b xs, SqT K G3 b xs → SqT K (upd G3 sA (.lst (st ++ [V.ref x']))) b xs := fun b xs h => upd_lst hA b xs h
            have nxA : x' ≠ sA := fun e => by rw [e, hA] at w1; cases w1
            have iS := (iS.put (o := .lst (st ++ [V.ref x'])) hA (fun _ _ _ z => by cases z) (List.mem_cons_of_mem _ List.mem_cons_self) ntA).snoc ((upd_ne nxA).trans w1) ((upd_ne nqA).trans w2) (w3.mono ntA) nqN
            have hN := (upd_ne (o := .lst (st ++ [V.ref x'])) nsD.symm).trans hN2
            have hR := (upd_ne (o := .lst (st ++ [V.ref x'])) nrA).trans hR
            have hW := (upd_ne (o := .lst (st ++ [V.ref x'])) nwA).trans hW
            have iR := iR.mono ntA
            have sm : Same H (upd G3 sA (.lst (st ++ [V.ref x']))) := fun b o e => (upd_ne (ne_of_none e fA)).trans (sm _ _ e)
            have hA2 : (upd G3 sA (.lst (st ++ [V.ref x']))) sA = some (.lst (st ++ [V.ref x'])) := upd_same
            have h0 : (st ++ [V.ref x'])[0]? = some (.ref p) := by
              cases st with
              | nil => exact absurd rfl hA0
              | cons a r => exact h0
            generalize upd G3 sA (.lst (st ++ [V.ref x'])) = G4 at iS hA2 hR hW iR hN sm ⊢
            have hkx : (S ++ [ws])[S.length]? = some ws := by rw [List.getElem?_append_right (Nat.le_refl _), Nat.sub_self]; rfl
            have au2 := au.more al hs cm mo hm ew
            have ev := numsF_some al Cw.ok (S ++ [ws]) 0 S.length (fun s hs => (au2.can s hs).1.ok) au2.nd hkx
            rw [Nat.zero_add] at ev
            have sz' : (row.map oV).length < sizeLine := by rw [List.length_map, sizeLine_eq]; omega
            refine ⟨.ref rw', rfl, .inl ⟨rfl, _, SqL.of hW⟩, .ref nD, rfl, nD, rfl, .inl ⟨_, .inl hN⟩, .str (lstr z ws), rfl, _, DGet.k (k := .inr (lstr z ws)) hN, ?_⟩
            rw [ev]
            refine ⟨rw', _, _, rfl, rfl, hW, sz', ?_⟩
            have nt : ∀ b xs, SqT K G4 b xs → SqT K (upd G4 rw' (.lst (row.map oV ++ [V.int (S.length : Int)]))) b xs := fun b xs h => upd_lst hW b xs h
            exact ⟨st ++ [V.ref x'], S ++ [ws], row ++ [some S.length], _, _, _, rfl, (upd_ne nwA.symm).trans hA2, iS.put hW (fun _ _ _ z => by cases z) List.mem_cons_self nt, h0, (upd_ne nwD.symm).trans hN, (upd_ne nwR.symm).trans hR, iR.mono nt, by rw [upd_same, List.map_append]; rfl, by rw [← List.append_assoc]; exact au2, by rw [List.getElem?_append_left (List.getElem?_eq_some_iff.mp hs).1]; exact hs, by rw [tk]; exact ro.more.snoc (.inr ⟨S.length, ws, rfl, hkx, fun u => (dl u).symm⟩), fun b o e => (upd_ne (ne_of_none e fW)).trans (sm _ _ e)⟩
      · clear iS hA h0 hN hR iR au sm lt hs0 laW e1 bd stl
        rintro σ G ⟨st, S, row, y5, y6, y7, rfl, hA, iS, h0, hN, hR, iR, hW, au, hs, ro, sm⟩
        have ez' : (tl z).take z.cps.size = tl z := List.take_of_length_le (by rw [Array.length_toList]; exact Nat.le_refl _)
        rw [ez'] at ro
        have bd := au.bound al
        have ln := au.ln
        refine ⟨.ref rL, rfl, .inl ⟨rfl, _, SqL.of hR⟩, .ref rw', rfl, rw', row.map oV, rfl, .inl ⟨SqL.of hW, fun tp htp => ?_⟩⟩
        have sT := same_upd (o := .tup (row.map oV)) htp
        have hR' := sT _ _ hR
        refine ⟨rL, us, _, rfl, rfl, hR', by rw [usl, sizeLine_eq]; omega, ?_⟩
        have nt : ∀ b xs, SqT K (upd G tp (.tup (row.map oV))) b xs → SqT K (upd (upd G tp (.tup (row.map oV))) rL (.lst (us ++ [V.ref tp]))) b xs := fun b xs h => upd_lst hR' b xs h
        exact ⟨st, us ++ [.ref tp], S, rows ++ [row], _, _, _, _, rfl, (upd_ne nrA.symm).trans (sT _ _ hA), ((iS.same sT).off fun q o _ hn e => hn (List.mem_cons_of_mem _ e)).put hR' (fun _ _ _ z => by cases z) (List.mem_cons_of_mem _ (List.mem_cons_of_mem _ List.mem_cons_self)) nt, h0, (upd_ne nrD.symm).trans (sT _ _ hN), upd_same, ((iR.mono (same_tup sT)).mono nt).snoc (nt _ _ (SqT.of upd_same)), by rw [List.flatten_append]; show Au0 z zs S (rows ++ [row]) (rows.flatten ++ (row ++ [])); rw [List.append_nil]; exact au.row hs ro, fun b o e => (upd_ne (ne_of_none e fR)).trans ((sm.trans sT) _ _ e), by rw [List.length_append]; rfl⟩
    · have ge : S.length ≤ rows.length := by
        have : ¬ (us.length : Int) < (st.length : Int) := fun z => e (decide_eq_true z)
        omega
      have ln := au.ln
      exact ⟨.ref rL, rfl, k _ rL us rows sm fR hR iR (fun e0 => absurd e0 ez) fun _ => ⟨S, ⟨au, by omega⟩⟩⟩
end
end DW
/-! small enough to be counted -/
namespace DW
open PySem PySem.Spec PyProof.Rows L2 TL
set_option autoImplicit false
/-- small enough to be counted -/
structure Few (z : Str) (zs : List (List Fc)) : Prop where
  al : Alph z
  can : Can z zs
  fac : facN zs ≤ 24
  len : zs.length ≤ 1000
  short : ∀ q ∈ zs, q.length ≤ 100
  prod : prodN zs ≤ 1000000
end DW
/-! what the laws of counting draw -/
namespace DW
open PySem PySem.Spec PyProof.Rows L2 TL
set_option autoImplicit false
def spProds (K : PySem.W.Frag) : Sp := fun vs H Q _ => ∃ (t c : Addr) (n : Nat) (z : Str) (m l : Int), vs = [.ref t, .str z, .int m, .int l] ∧ Tape H t c n ∧ n + 20000 < 2 ^ 40 ∧ Alph z ∧ 0 ≤ m ∧ m ≤ 15 ∧ 0 ≤ l ∧ l ≤ 50 ∧
  ∀ H' p us ps, Kp t H H' → Tape H' t c (n + 20000) → H p = none → H' p = some (.lst us) → IsL K H' us ps → (∀ q ∈ ps, (∀ f ∈ q, FOk z f) ∧ (q.length : Int) ≤ l) → (ps.length : Int) ≤ m → Q (.ref p) H'
theorem prodN_le {n : Nat} : ∀ {zs : List (List Fc)}, (∀ q ∈ zs, q.length ≤ n) → prodN zs ≤ (n + 2) ^ zs.length
  | [], _ => Nat.le_refl _
  | q :: r, h => by
    have h1 := h q List.mem_cons_self
    have h2 := prodN_le fun x hx => h x (List.mem_cons_of_mem _ hx)
    unfold prodN
    rw [List.length_cons, Nat.pow_succ, Nat.mul_comm ((n + 2) ^ r.length)]
    exact Nat.mul_le_mul (by omega) h2
theorem facN_le {n : Nat} : ∀ {zs : List (List Fc)}, (∀ q ∈ zs, q.length ≤ n) → facN zs ≤ (n * zs.length : Nat)
  | [], _ => Int.le_refl _
  | q :: r, h => by
    have h1 := h q List.mem_cons_self
    have h2 := facN_le fun x hx => h x (List.mem_cons_of_mem _ hx)
    have e : facN (q :: r) = (q.length : Int) + facN r := rfl
    rw [e, List.length_cons, Nat.mul_add, Nat.mul_one]
    omega
theorem few_can {z : Str} (al : Alph z) {zs : List (List Fc)} (can : Can z zs) {m n : Nat} (hm : zs.length ≤ m) (hn : ∀ q ∈ zs, q.length ≤ n) (h1 : n * m ≤ 24) (h2 : (n + 2) ^ m ≤ 1000000) (h3 : m ≤ 1000) (h4 : n ≤ 100) : Few z zs := by
  refine ⟨al, can, ?_, by omega, fun q hq => Nat.le_trans (hn q hq) h4, Nat.le_trans (prodN_le hn) (Nat.le_trans (Nat.pow_le_pow_right (by omega) hm) h2)⟩
  have := facN_le hn
  have := Nat.mul_le_mul_left n hm
  omega
section
variable {P : Program} {w : World} {K : PySem.W.Frag} {mg : Str → Option Value} {base : Heap}
theorem scProds : FnScope ["_law_tape", "_law_alphabet_here", "_law_many", "_law_longest", "_law_k"] ["_law_tape", "_law_alphabet_here", "_law_many", "_law_longest"] (defScope sLProducts) := ⟨rfl, rfl, rfl, by decide +kernel, rfl, by decide +kernel, by decide +kernel⟩
theorem ok_prods (D : Df K mg "_law_products" sLProducts ["_law_tape", "_law_alphabet_here", "_law_many", "_law_longest"]) (Dr : Df K mg "_law_product" sProduct ["_law_tape", "_law_alphabet_here", "_law_longest"]) (D0 : Df K mg "_law_factor" sFactor ["_law_tape", "_law_alphabet_here"]) (Dd : DfDraw K mg) (Dp : DfPick K mg) (B : Bl mg) (mt : mg "tuple" = none) : FnOk P w K mg base CX0 5 D.f D.fd ["_law_tape", "_law_alphabet_here", "_law_many", "_law_longest"] (spProds K) := by
  have Gd : FnOk P w K mg base CX0 1 Dd.f Dd.fd ["_law_tape", "_law_many"] spDraw := ok_draw Dd B.len
  have Gr : FnOk P w K mg base CX0 4 Dr.f Dr.fd ["_law_tape", "_law_alphabet_here", "_law_longest"] (spProduct K) := ok_product Dr D0 Dd Dp B mt
  refine D.F.ok scProds (fun vs H Q E h => ?_) (fun cdv A outer s H vs Q E hr h => ?_)
  · obtain ⟨t, c, n, z, m, l, rfl, _⟩ := h
    rfl
  · obtain ⟨t, c, n, z, m, l, rfl, T, hn, al, m0, m1, l0, l1, k⟩ := h
    have hr1 : Room 1 _ := hr.mono (by decide)
    have hr4 : Room 4 _ := hr.mono (by decide)
    refine ⟨_, (pss_one (ps_ret (pe_lc (own := [("_law_k", 4)]) (g := gName 4) rfl scProds.nd (pi_range1 rfl B.range (pa_cons (pe_call Gd hr1 (by rfl) Dd.g Dd.F.kp Dd.b .nil pass0 (pa_cons (pv 0) (pa_cons (pe_op op_add (pv 2) pe_int) pa_nil))) pa_nil)) (blkOk_by (N := ["_law_tape", "_law_alphabet_here", "_law_many", "_law_longest", "_law_k"]) (sc := defScope sLProducts) (by decide +kernel)) (fun _ _ _ _ _ => pg_name (i := 4) scProds.nd rfl (Or.inl rfl)) (fun _ _ _ _ _ => pts_nil) (fun _ _ _ _ _ => (pe_call Gr hr4 (by rfl) Dr.g Dr.F.kp Dr.b .nil pass0 (pa_cons (pv 0) (pa_cons (pv 1) (pa_cons (pv 3) pa_nil)))))))), ?_⟩
    refine ⟨.ref t, rfl, .int m, rfl, m, 1, rfl, rfl, t, c, m + 1, n, rfl, T, by omega, by omega, by omega, fun H1 r k1 T1 r0 r1 => ?_⟩
    refine ⟨r, rfl, by omega, by omega, fun O hO => ?_⟩
    have O1 := T1.ne1 hO
    have O2 := T1.ne2 hO
    have O0 := k1.gone hO
    refine lc_range (lo := 0) (n := r.toNat) (fun j H' => ∃ (us : List V) (qs : List (List Fc)), qs.length = j ∧ H' O = some (.lst us) ∧ IsL K H' us qs ∧ (∀ q ∈ qs, (∀ f ∈ q, FOk z f) ∧ (q.length : Int) ≤ l) ∧ Kp t H H' ∧ Tape H' t c (n + 1 + 1000 * j)) ?_ ?_ ?_
    · exact ⟨[], [], rfl, upd_same, .nil, fun q hq => (nomatch hq), k1.put O0 O1, (T1.upd O1 O2).mono (by omega)⟩
    · rintro j M hj ⟨us, qs, ql, gO, iM, oks, kM, TM⟩
      refine ⟨rfl, yes ?_⟩
      refine ⟨.ref t, rfl, .str z, rfl, .int l, rfl, t, c, _, z, l, rfl, TM, by omega, al, l0, l1, fun M1 v q k4 T4 isq okq lenq => ?_⟩
      have gO4 := k4.at gO (fun _ z => by cases z)
      refine ⟨us, gO4, ?_, us ++ [v], qs ++ [q], by rw [List.length_append, ql]; rfl, upd_same, ((iM.mono (kp_tup k4)).app (.cons isq .nil)).mono (upd_tup gO4), fun q' hq' => ?_, (kM.trans k4).put O0 O1, (T4.upd O1 O2).mono (by omega)⟩
      · rw [iM.len, ql, sizeLine_eq]
        omega
      · rcases List.mem_append.mp hq' with e | e
        · exact oks q' e
        · rw [List.mem_singleton.mp e]
          exact ⟨okq, lenq⟩
    · rintro M ⟨us, qs, ql, gO, iM, oks, kM, TM⟩
      exact k M O us qs kM (TM.mono (by omega)) O0 gO iM oks (by omega)
end
end DW
/-! places in products -/
namespace DW
open PySem PySem.Spec PyProof.Rows L2 TL
set_option autoImplicit false
/-- the index behind a letter, in the rest of a product that begins at an index -/
def plF : List Fc → Nat → Nat → Option Nat
  | [], _, _ => none
  | g :: r, i, c => if c ∈ ls g then some (if g.1 = true then i else i + 1) else plF r (i + 1) c
def plN (q : List Fc) (o : Option Nat) (c : Nat) : Option Nat := o.bind fun i => plF (q.drop i) i c
theorem plF_le : ∀ (r : List Fc) (i c j : Nat), plF r i c = some j → i ≤ j ∧ j ≤ i + r.length
  | [], i, c, j, h => by cases h
  | g :: r, i, c, j, h => by
    unfold plF at h
    rw [List.length_cons]
    by_cases m : c ∈ ls g
    · rw [if_pos m] at h
      cases h
      by_cases k : g.1 = true
      · rw [if_pos k]; omega
      · rw [if_neg k]; omega
    · rw [if_neg m] at h
      have := plF_le r (i + 1) c j h
      omega
theorem plF_lang : ∀ (r : List Fc) (i c : Nat) (u : List Nat), Lg r (c :: u) ↔ ∃ j, plF r i c = some j ∧ Lg (r.drop (j - i)) u
  | [], i, c, u => ⟨fun h => (nomatch h), fun ⟨j, h, _⟩ => (nomatch h)⟩
  | g :: r, i, c, u => by
    unfold plF
    by_cases m : c ∈ ls g
    · rw [if_pos m]
      by_cases k : g.1 = true
      · rw [if_pos k, lg_star k m]
        exact ⟨fun h => ⟨i, rfl, by rw [Nat.sub_self]; exact h⟩, fun ⟨j, e, h⟩ => by cases e; rw [Nat.sub_self] at h; exact h⟩
      · rw [if_neg k, lg_opt (by simpa using k) m]
        exact ⟨fun h => ⟨i + 1, rfl, by rw [Nat.add_sub_cancel_left]; exact h⟩, fun ⟨j, e, h⟩ => by cases e; rw [Nat.add_sub_cancel_left] at h; exact h⟩
    · rw [if_neg m, lg_not m, plF_lang r (i + 1) c u]
      refine ⟨fun ⟨j, e, h⟩ => ⟨j, e, ?_⟩, fun ⟨j, e, h⟩ => ⟨j, e, ?_⟩⟩
      · have := plF_le r (i + 1) c j e
        rw [show j - i = (j - (i + 1)) + 1 by omega]
        exact h
      · have := plF_le r (i + 1) c j e
        rw [show j - i = (j - (i + 1)) + 1 by omega] at h
        exact h
theorem plN_lang (q : List Fc) (i c : Nat) (u : List Nat) : Lg (q.drop i) (c :: u) ↔ ∃ j, plN q (some i) c = some j ∧ Lg (q.drop j) u := by
  show _ ↔ ∃ j, plF (q.drop i) i c = some j ∧ _
  rw [plF_lang (q.drop i) i c u]
  refine ⟨fun ⟨j, e, h⟩ => ⟨j, e, ?_⟩, fun ⟨j, e, h⟩ => ⟨j, e, ?_⟩⟩
  · have := plF_le _ _ _ _ e
    rw [List.drop_drop, show i + (j - i) = j by omega] at h
    exact h
  · have := plF_le _ _ _ _ e
    rw [List.drop_drop, show i + (j - i) = j by omega]
    exact h
/-- places that fit to products -/
inductive Vp : List (List Fc) → List (Option Nat) → Prop where
  | nil : Vp [] []
  | cons {q : List Fc} {o : Option Nat} {ps : List (List Fc)} {k : List (Option Nat)} (h : ∀ i, o = some i → i ≤ q.length) (r : Vp ps k) : Vp (q :: ps) (o :: k)
def pls : List (List Fc) → List (Option Nat) → Nat → List (Option Nat)
  | q :: ps, o :: k, c => plN q o c :: pls ps k c
  | _, _, _ => []
theorem Vp.len : ∀ {ps : List (List Fc)} {k : List (Option Nat)}, Vp ps k → k.length = ps.length
  | _, _, .nil => rfl
  | _, _, .cons _ r => congrArg Nat.succ r.len
theorem Vp.step (c : Nat) : ∀ {ps : List (List Fc)} {k : List (Option Nat)}, Vp ps k → Vp ps (pls ps k c)
  | _, _, .nil => .nil
  | _, _, @Vp.cons q o ps k h r => by
    refine .cons (fun j e => ?_) (r.step c)
    cases o with
    | none => cases e
    | some i =>
      have := plF_le _ _ _ _ e
      have := h i rfl
      rw [List.length_drop] at *
      omega
def HasK : List (List Fc) → List (Option Nat) → List Nat → Prop
  | q :: ps, o :: k, u => (∃ i, o = some i ∧ Lg (q.drop i) u) ∨ HasK ps k u
  | _, _, _ => False
theorem hasK_step (c : Nat) (u : List Nat) : ∀ {ps : List (List Fc)} {k : List (Option Nat)}, Vp ps k → (HasK ps k (c :: u) ↔ HasK ps (pls ps k c) u)
  | _, _, .nil => Iff.rfl
  | _, _, @Vp.cons q o ps k h r => by
    show (_ ∨ HasK ps k (c :: u)) ↔ (_ ∨ HasK ps (pls ps k c) u)
    rw [hasK_step c u r]
    refine or_congr ?_ Iff.rfl
    cases o with
    | none => exact ⟨fun ⟨i, e, _⟩ => (nomatch e), fun ⟨i, e, _⟩ => (nomatch e)⟩
    | some i =>
      refine ⟨fun ⟨i', e, h⟩ => ?_, fun h => ⟨i, rfl, (plN_lang q i c u).mpr h⟩⟩
      cases e
      exact (plN_lang q i c u).mp h
/-- some product can be read on -/
def some1 (k : List (Option Nat)) : Bool := k.any Option.isSome
theorem hasK_some {u : List Nat} : ∀ {ps : List (List Fc)} {k : List (Option Nat)}, HasK ps k u → some1 k = true
  | q :: ps, o :: k, h => by
    unfold some1
    rw [List.any_cons]
    rcases h with ⟨i, e, _⟩ | h
    · rw [e]; rfl
    · have := hasK_some h
      unfold some1 at this
      rw [this, Bool.or_true]
  | [], _, h => h.elim
  | _ :: _, [], h => h.elim
theorem hasK_nil : ∀ {ps : List (List Fc)} {k : List (Option Nat)}, Vp ps k → some1 k = true → HasK ps k []
  | _, _, .nil, h => by cases h
  | _, _, @Vp.cons q o ps k _ r, h => by
    unfold some1 at h
    rw [List.any_cons] at h
    cases o with
    | some i => exact .inl ⟨i, rfl, Lg.empty _⟩
    | none => exact .inr (hasK_nil r h)
def stepP (ps : List (List Fc)) (k : List (Option Nat)) (c : Nat) : Option (List (Option Nat)) := if some1 (pls ps k c) = true then some (pls ps k c) else none
def startP (ps : List (List Fc)) : Option (List (Option Nat)) := if ps = [] then none else some (ps.map fun _ => some 0)
def runP (ps : List (List Fc)) (w : List Nat) : Option (List (Option Nat)) := w.foldl (fun o c => o.bind fun k => stepP ps k c) (startP ps)
theorem runP_snoc (ps : List (List Fc)) (w : List Nat) (c : Nat) : runP ps (w ++ [c]) = (runP ps w).bind fun k => stepP ps k c := by
  unfold runP
  rw [List.foldl_append]
  rfl
theorem start_vp : ∀ ps : List (List Fc), Vp ps (ps.map fun _ => some 0)
  | [] => .nil
  | q :: ps => .cons (fun i e => by cases e; exact Nat.zero_le _) (start_vp ps)
theorem start_has (u : List Nat) : ∀ ps : List (List Fc), HasK ps (ps.map fun _ => some 0) u ↔ HasL ps u
  | [] => ⟨fun h => h.elim, fun ⟨q, h, _⟩ => (nomatch h)⟩
  | q :: ps => by
    show (_ ∨ HasK ps (ps.map fun _ => some 0) u) ↔ _
    rw [start_has u ps]
    refine ⟨fun h => ?_, fun ⟨p, hp, h⟩ => ?_⟩
    · rcases h with ⟨i, e, h⟩ | ⟨p, hp, h⟩
      · cases e
        exact ⟨q, List.mem_cons_self, h⟩
      · exact ⟨p, List.mem_cons_of_mem _ hp, h⟩
    · rcases List.mem_cons.mp hp with e | e
      · rw [e] at h
        exact .inl ⟨0, rfl, h⟩
      · exact .inr ⟨p, e, h⟩
structure Vk (ps : List (List Fc)) (k : List (Option Nat)) : Prop where
  vp : Vp ps k
  so : some1 k = true
theorem start_vk {ps : List (List Fc)} {k : List (Option Nat)} (h : startP ps = some k) : Vk ps k := by
  unfold startP at h
  cases ps with
  | nil => cases h
  | cons q r =>
    rw [if_neg (by simp)] at h
    cases h
    exact ⟨start_vp _, rfl⟩
theorem step_vk {ps : List (List Fc)} {k k' : List (Option Nat)} {c : Nat} (v : Vk ps k) (h : stepP ps k c = some k') : Vk ps k' := by
  unfold stepP at h
  by_cases e : some1 (pls ps k c) = true
  · rw [if_pos e] at h
    cases h
    exact ⟨v.vp.step c, e⟩
  · rw [if_neg e] at h
    cases h
theorem step_lang {ps : List (List Fc)} {k : List (Option Nat)} {c : Nat} (v : Vk ps k) (u : List Nat) : HasK ps k (c :: u) ↔ ∃ k', stepP ps k c = some k' ∧ HasK ps k' u := by
  rw [hasK_step c u v.vp]
  unfold stepP
  by_cases e : some1 (pls ps k c) = true
  · rw [if_pos e]
    exact ⟨fun h => ⟨_, rfl, h⟩, fun ⟨k', e, h⟩ => by cases e; exact h⟩
  · rw [if_neg e]
    exact ⟨fun h => absurd (hasK_some h) e, fun ⟨k', e, _⟩ => (nomatch e)⟩
theorem runs_lang (ps : List (List Fc)) : ∀ (w : List Nat) (o : Option (List (Option Nat))) (u : List Nat), (∀ k, o = some k → Vk ps k) → ((∃ k, o = some k ∧ HasK ps k (w ++ u)) ↔ ∃ k, w.foldl (fun o c => o.bind fun k => stepP ps k c) o = some k ∧ HasK ps k u)
  | [], o, u, _ => Iff.rfl
  | c :: w, o, u, v => by
    rw [List.foldl_cons, ← runs_lang ps w _ u (fun k' e => ?_)]
    · cases o with
      | none => exact ⟨fun ⟨k, e, _⟩ => (nomatch e), fun ⟨k, e, _⟩ => (nomatch e)⟩
      | some k =>
        have := step_lang (v k rfl) (c := c) (w ++ u)
        refine ⟨fun ⟨k', e, h⟩ => ?_, fun h => ⟨k, rfl, this.mpr h⟩⟩
        cases e
        exact this.mp h
    · cases o with
      | none => cases e
      | some k => exact step_vk (v k rfl) e
theorem run_vk (ps : List (List Fc)) : ∀ (w : List Nat) (o : Option (List (Option Nat))), (∀ k, o = some k → Vk ps k) → ∀ k, w.foldl (fun o c => o.bind fun k => stepP ps k c) o = some k → Vk ps k
  | [], o, v, k, h => v k h
  | c :: w, o, v, k, h => run_vk ps w _ (fun k' e => by
      cases o with
      | none => cases e
      | some k0 => exact step_vk (v k0 rfl) e) k h
theorem runP_vk {ps : List (List Fc)} {w : List Nat} {k : List (Option Nat)} (h : runP ps w = some k) : Vk ps k := run_vk ps w _ (fun _ e => start_vk e) k h
theorem runP_lang (ps : List (List Fc)) (w u : List Nat) : HasL ps (w ++ u) ↔ ∃ k, runP ps w = some k ∧ HasK ps k u := by
  unfold runP
  rw [← runs_lang ps w _ u fun _ e => start_vk e]
  unfold startP
  cases ps with
  | nil =>
    rw [if_pos rfl]
    exact ⟨fun ⟨q, h, _⟩ => (nomatch h), fun ⟨k, e, _⟩ => (nomatch e)⟩
  | cons q r =>
    rw [if_neg (by simp), ← start_has]
    exact ⟨fun h => ⟨_, rfl, h⟩, fun ⟨k, e, h⟩ => by cases e; exact h⟩
theorem runP_has (ps : List (List Fc)) (w : List Nat) : HasL ps w ↔ (runP ps w).isSome = true := by
  have := runP_lang ps w []
  rw [List.append_nil] at this
  rw [this]
  constructor
  · rintro ⟨k, e, _⟩
    rw [e]
    rfl
  · intro h
    obtain ⟨k, e⟩ := Option.isSome_iff_exists.mp h
    exact ⟨k, e, hasK_nil (runP_vk e).vp (runP_vk e).so⟩
/-! ### how many places -/
def allP : List (List Fc) → List (List (Option Nat))
  | [] => [[]]
  | q :: ps => ((none :: (List.range (q.length + 1)).map some).map fun o => (allP ps).map fun t => o :: t).flatten
theorem allP_len : ∀ ps : List (List Fc), (allP ps).length = prodN ps
  | [] => rfl
  | q :: ps => by
    unfold allP prodN
    rw [flatN_len _ (allP ps).length (fun o => by rw [List.length_map]), allP_len ps, List.length_cons, List.length_map, List.length_range]
theorem allP_mem : ∀ {ps : List (List Fc)} {k : List (Option Nat)}, Vp ps k → k ∈ allP ps
  | _, _, .nil => List.mem_cons_self
  | _, _, @Vp.cons q o ps k h r => by
    refine List.mem_flatten.mpr ⟨(allP ps).map fun t => o :: t, List.mem_map.mpr ⟨o, ?_, rfl⟩, List.mem_map.mpr ⟨_, allP_mem r, rfl⟩⟩
    cases o with
    | none => exact List.mem_cons_self
    | some i => exact List.mem_cons_of_mem _ (List.mem_map_of_mem (List.mem_range.mpr (by have := h i rfl; omega)))
theorem keys_few {ps : List (List Fc)} {ks : List (List (Option Nat))} (nd : ks.Nodup) (h : ∀ k ∈ ks, Vp ps k) : ks.length ≤ prodN ps := by
  rw [← allP_len]
  exact nodup_len _ _ nd fun k hk => allP_mem (h k hk)
end DW
/-! the law's places in products -/
namespace DW
open PySem PySem.Spec PyProof.Rows L2 TL
set_option autoImplicit false
def spPlb (K : PySem.W.Frag) : Sp := fun vs H Q _ => ∃ (x : V) (q : List Fc) (o : Option Nat) (c : Nat), vs = [x, oV o, .str ⟨#[c]⟩] ∧ IsP K H x q ∧ (∀ i, o = some i → i ≤ q.length) ∧ q.length ≤ 1000 ∧ Q (oV (plN q o c)) H
def spPls (K : PySem.W.Frag) : Sp := fun vs H Q _ => ∃ (a b : Addr) (us : List V) (ps : List (List Fc)) (k : List (Option Nat)) (c : Nat), vs = [.ref a, .ref b, .str ⟨#[c]⟩] ∧ SqL K H a us ∧ IsL K H us ps ∧ SqT K H b (k.map oV) ∧ Vp ps k ∧ ps.length ≤ 1000 ∧ (∀ q ∈ ps, q.length ≤ 1000) ∧
  ∀ H' v, Same H H' → (∀ k', stepP ps k c = some k' → ∃ t, v = .ref t ∧ SqT K H' t (k'.map oV)) → (stepP ps k c = none → v = .non) → Q v H'
def spStart (K : PySem.W.Frag) : Sp := fun vs H Q _ => ∃ (a : Addr) (us : List V) (ps : List (List Fc)) (z : Str), vs = [.ref a] ∧ SqL K H a us ∧ IsL K H us ps ∧ Alph z ∧ (∀ p ∈ ps, ∀ f ∈ p, FOk z f) ∧ ps.length ≤ 1000 ∧
  ∀ H' v, Same H H' → (∀ k', startP ps = some k' → ∃ t, v = .ref t ∧ SqT K H' t (k'.map oV)) → (startP ps = none → v = .non) → Q v H'
theorem plF_skip {q : List Fc} {g : Fc} {i c : Nat} (h : q[i]? = some g) : plF (q.drop i) i c = if c ∈ ls g then some (if g.1 = true then i else i + 1) else plF (q.drop (i + 1)) (i + 1) c := by
  obtain ⟨hi, e⟩ := List.getElem?_eq_some_iff.mp h
  rw [List.drop_eq_getElem_cons hi, e]
  rfl
def nums (k : List (Option Nat)) : List Int := (k.filterMap id).map Int.ofNat
theorem nums_nil : ∀ k : List (Option Nat), nums k = [] ↔ some1 k = false
  | [] => ⟨fun _ => rfl, fun _ => rfl⟩
  | none :: k => nums_nil k
  | some i :: k => ⟨fun h => (by cases h), fun h => (by cases h)⟩
theorem pls_get (c : Nat) : ∀ {ps : List (List Fc)} {k : List (Option Nat)} (i : Nat) (q : List Fc) (o : Option Nat), ps[i]? = some q → k[i]? = some o → (pls ps k c)[i]? = some (plN q o c)
  | q' :: ps, o' :: k, 0, q, o, h1, h2 => by
    cases h1
    cases h2
    rfl
  | q' :: ps, o' :: k, i + 1, q, o, h1, h2 => pls_get c (ps := ps) (k := k) i q o h1 h2
  | [], _, i, q, o, h1, _ => by cases h1
  | _ :: _, [], i, q, o, _, h2 => by cases h2
theorem Vp.get : ∀ {ps : List (List Fc)} {k : List (Option Nat)}, Vp ps k → ∀ (i : Nat) (q : List Fc) (o : Option Nat), ps[i]? = some q → k[i]? = some o → ∀ j, o = some j → j ≤ q.length
  | _, _, .cons h r, 0, q, o, h1, h2, j, e => by
    cases h1
    cases h2
    exact h j e
  | _, _, .cons h r, i + 1, q, o, h1, h2, j, e => r.get i q o h1 h2 j e
  | _, _, .nil, i, q, o, h1, _, _, _ => by cases h1
section
variable {P : Program} {w : World} {K : PySem.W.Frag} {mg : Str → Option Value} {base : Heap}
theorem scPlb : FnScope ["_law_product_here", "_law_place", "_law_letter", "_law_index"] ["_law_product_here", "_law_place", "_law_letter"] (defScope sLPlaceBehind) := ⟨rfl, rfl, rfl, by decide +kernel, rfl, by decide +kernel, by decide +kernel⟩
theorem ok_plb (D : Df K mg "_law_place_behind" sLPlaceBehind ["_law_product_here", "_law_place", "_law_letter"]) (ml : mg "len" = none) (mr : mg "range" = none) (mi : mg "int" = none) : FnOk P w K mg base CX0 1 D.f D.fd ["_law_product_here", "_law_place", "_law_letter"] (spPlb K) := by
  refine D.F.ok scPlb (fun vs H Q E h => ?_) (fun cdv A outer s H vs Q E hr h => ?_)
  · obtain ⟨x, q, o, c, rfl, _⟩ := h
    rfl
  · obtain ⟨x, q, o, c, rfl, ⟨a, xs, rfl, ha, iX⟩, ho, ql, k⟩ := h
    have xl := iX.len
    refine ⟨_, PSs.nox (pss_cons (ps_if (pt_cmpR op_isN (pv 1) pe_non (nomark _)) (pss_one (ps_ret pe_non)) pss_nil) (pss_cons (ps_for PassesOwn.never rfl (pi_range2 rfl mr (pa_cons (pv 1) (pa_cons (pe_callB call_len_seq (by rfl) ml PySem.boot_len (pa_cons (pv 0) pa_nil)) pa_nil))) (pg_name (i := 3) scPlb.nd rfl (.inl rfl)) (pss_one (ps_if (pt_cmpR op_in_sign (pv 2) (pe_ix ix_tup (pe_ix ix_tup (pv 0) (pv 3) (fun _ _ => rfl)) pe_int (fun _ _ => rfl)) rfl) (pss_one (ps_ret (pe_op op_add (pv 3) (pe_callTy call_int1 (by rfl) mi (by decide +kernel) (pa_cons (pe_cmpR op_eq (pe_ix ix_tup (pe_ix ix_tup (pv 0) (pv 3) (fun _ _ => rfl)) pe_int (fun _ _ => rfl)) pe_str (nomark _)) pa_nil))))) pss_nil))) (pss_one (ps_ret pe_non)))), ?_⟩
    cases o with
    | none => exact ⟨_, rfl, rfl, _, rfl, iteT k⟩
    | some i =>
      have hi := ho i rfl
      refine ⟨_, rfl, rfl, _, rfl, iteF ?_⟩
      refine ⟨_, rfl, .ref a, rfl, a, xs, rfl, .inr ha, (i : Int), (xs.length : Int), rfl, ⟨by omega, by omega, by omega, by omega⟩, ?_⟩
      refine for_it (n := ((xs.length : Int) - (i : Int)).toNat) walk_range (fun n σ H' => ∃ y3, σ = [some (.ref a), some (oV (some i)), some (.str ⟨#[c]⟩), y3] ∧ H' = H ∧ plN q (some i) c = plF (q.drop (i + n)) (i + n) c) ⟨_, rfl, rfl, rfl⟩ (fun _ _ _ _ _ => trivial) ?_ ?_
      · rintro n x σ G G' hn ⟨y3, rfl, rfl, pe⟩ ⟨rfl, rfl⟩
        have hx : i + n < xs.length := by omega
        obtain ⟨v, hv⟩ : ∃ v, xs[i + n]? = some v := ⟨_, List.getElem?_eq_getElem hx⟩
        obtain ⟨f, hf, b, rfl, hb⟩ := iX.get (i + n) v hv
        rw [plF_skip hf] at pe
        refine ⟨_, rfl, _, rfl, _, rfl, a, xs, _, .ref b, rfl, rfl, ha, at_cp (j := i + n) (by omega) hv, b, _, 1, .str f.2, rfl, rfl, hb, atI_nat (j := 1) rfl, c, f.2, rfl, rfl, _, rfl, ?_⟩
        by_cases m : c ∈ ls f
        · rw [if_pos m] at pe
          rw [decide_eq_true (show c ∈ f.2.cps.toList from m)]
          refine iteT ?_
          refine ⟨_, rfl, _, rfl, _, rfl, a, xs, _, .ref b, rfl, rfl, ha, at_cp (j := i + n) (by omega) hv, b, _, 0, .str (kd f.1), rfl, rfl, hb, atI_nat (j := 0) rfl, rfl, .inr ⟨_, rfl, _, _, rfl, rfl, ?_⟩⟩
          rw [pe] at k
          have e : ((i : Int) + (n : Int)) + (if decide (V.str (kd f.1) = V.str "opt") = true then 1 else 0) = ((if f.1 = true then i + n else i + n + 1 : Nat) : Int) := by
            cases f.1 with
            | true =>
              rw [if_neg (by unfold kd; decide +kernel), if_pos rfl]
              omega
            | false =>
              rw [if_pos (by unfold kd; decide +kernel), if_neg (by decide)]
              omega
          show Q (V.int (((i : Int) + (n : Int)) + (if decide (V.str (kd f.1) = V.str "opt") = true then 1 else 0))) _
          rw [e]
          exact k
        · rw [if_neg m] at pe
          rw [decide_eq_false (show ¬ c ∈ f.2.cps.toList from m)]
          exact iteF ⟨_, rfl, rfl, pe⟩
      · rintro σ G ⟨y3, rfl, rfl, pe⟩
        have : plN q (some i) c = none := by
          rw [pe, List.drop_eq_nil_of_le (by omega)]
          rfl
        rw [this] at k
        exact k
theorem scPls : FnScope ["_law_products_here", "_law_places", "_law_letter", "_law_found", "_law_product_here", "_law_place"] ["_law_products_here", "_law_places", "_law_letter"] (defScope sLPlacesBehind) := ⟨rfl, rfl, rfl, by decide +kernel, rfl, by decide +kernel, by decide +kernel⟩
theorem ok_pls (D : Df K mg "_law_places_behind" sLPlacesBehind ["_law_products_here", "_law_places", "_law_letter"]) (Dp : Df K mg "_law_place_behind" sLPlaceBehind ["_law_product_here", "_law_place", "_law_letter"]) (ml : mg "len" = none) (mr : mg "range" = none) (mi : mg "int" = none) (mt : mg "tuple" = none) (mz : mg "zip" = none) : FnOk P w K mg base CX0 2 D.f D.fd ["_law_products_here", "_law_places", "_law_letter"] (spPls K) := by
  have Gp : FnOk P w K mg base CX0 1 Dp.f Dp.fd ["_law_product_here", "_law_place", "_law_letter"] (spPlb K) := ok_plb Dp ml mr mi
  refine D.F.ok scPls (fun vs H Q E h => ?_) (fun cdv A outer s H vs Q E hr h => ?_)
  · obtain ⟨a, b, us, ps, k0, c, rfl, _⟩ := h
    rfl
  · obtain ⟨a, b, us, ps, k0, c, rfl, ha, iL, hb, vp, pl, sh, k⟩ := h
    have ul := iL.len
    have kl := vp.len
    have vs' := vp.step c
    have sl := vs'.len
    refine ⟨_, PSs.nox (pss_cons (ps_set (i := 3) scPls.nd rfl (.inl rfl) (pe_callTy call_tuple_of (by rfl) mt (by decide +kernel) (pa_cons (pe_lc (own := [("_law_product_here", 4), ("_law_place", 5)]) (g := gTup K 2 (gCons (gName 4) (gCons (gName 5) gNil))) rfl scPls.nd (ZL.pi_zipLT rfl mz (pa_cons (pv 0) (pa_cons (pv 1) pa_nil))) (blkOk_by (N := ["_law_products_here", "_law_places", "_law_letter", "_law_found", "_law_product_here", "_law_place"]) (sc := defScope sLPlacesBehind) (by decide +kernel)) (fun _ _ _ _ _ => (pg_tup rfl (pgs_cons (pg_name (i := 4) scPls.nd rfl (.inl rfl)) (pgs_cons (pg_name (i := 5) scPls.nd rfl (.inl rfl)) pgs_nil)))) (fun _ _ _ _ _ => pts_nil) (fun _ _ _ _ _ => (pe_call Gp hr (by rfl) Dp.g Dp.F.kp Dp.b .nil pass0 (pa_cons (pv 4) (pa_cons (pv 5) (pa_cons (pv 2) pa_nil)))))) pa_nil))) (pss_one (ps_ret (pe_ifExp (pt_cmpR (op_neD hr.units) (pe_lc (own := [("_law_place", 5)]) (g := gName 5) rfl scPls.nd (pi_tup (pv 3)) (blkOk_by (N := ["_law_products_here", "_law_places", "_law_letter", "_law_found", "_law_product_here", "_law_place"]) (sc := defScope sLPlacesBehind) (by decide +kernel)) (fun _ _ _ _ _ => pg_name (i := 5) scPls.nd rfl (Or.inl rfl)) (fun _ _ _ _ _ => (pts_one (pt_cmpR op_notN (pv 5) pe_non (nomark _)))) (fun _ _ _ _ _ => (pv 5))) (pe_lst pa_nil) (nomark _)) (pv 3) pe_non)))), ?_⟩
    refine ⟨.ref a, rfl, .ref b, rfl, a, b, us, k0.map oV, rfl, ha, hb, fun L hL => ?_⟩
    refine lc_it (ZL.walk_zipLT (K := K) (xs := us) (ys := k0.map oV) (n := ps.length) (by rw [List.length_map]; omega)) (fun i H' => H' L = some (.lst (((pls ps k0 c).take i).map oV)) ∧ Same H H') ⟨upd_same, same_upd hL⟩ (fun _ _ _ ⟨_, sm⟩ => ⟨same_lst sm ha, same_tup sm _ _ hb⟩) ?_ ?_
    · rintro i x G0 G hi ⟨gL, sm⟩ ⟨Tz, x5, x6, rfl, hTz, rfl, h5, h6⟩
      have sT := same_upd (o := .tup [x5, x6]) hTz
      obtain ⟨q, hq, isq⟩ := iL.get i x5 h5
      obtain ⟨o, ho, rfl⟩ : ∃ o, k0[i]? = some o ∧ oV o = x6 := by
        have h6 : (k0.map oV)[i]? = some x6 := h6
        rw [List.getElem?_map] at h6
        cases q : k0[i]? with
        | none => rw [q] at h6; cases h6
        | some o => rw [q] at h6; exact ⟨o, rfl, Option.some.inj h6⟩
      refine ⟨Tz, [x5, oV o], rfl, SqT.of upd_same, rfl, _, _, rfl, _, _, rfl, rfl, rfl, yes ?_⟩
      refine ⟨x5, rfl, oV o, rfl, .str ⟨#[c]⟩, rfl, x5, q, o, c, rfl, isq.mono (same_tup (sm.trans sT)), vp.get i q o hq ho, sh q (List.mem_of_getElem? hq), ?_⟩
      refine ⟨_, sT _ _ gL, by rw [List.length_map, List.length_take, sizeLine_eq]; omega, ?_, fun b o e => (upd_ne (ne_of_none e hL)).trans ((sm.trans sT) _ _ e)⟩
      rw [upd_same, List.take_add_one, pls_get c i q o hq ho, List.map_append]
      rfl
    · rintro G ⟨gL, sm⟩
      rw [List.take_of_length_le (by omega)] at gL
      refine ⟨L, _, rfl, .inl ⟨SqL.of gL, fun T hT => ?_⟩⟩
      have sT := same_upd (o := .tup ((pls ps k0 c).map oV)) hT
      generalize hG2 : upd G T (.tup ((pls ps k0 c).map oV)) = G2 at sT ⊢
      have gT : G2 T = some (.tup ((pls ps k0 c).map oV)) := by rw [← hG2]; exact upd_same
      have sm2 := sm.trans sT
      refine ⟨.ref T, rfl, T, rfl, ⟨_, SqT.of gT⟩, fun M hM => ?_⟩
      refine lc_it (walk_tup (xs := (pls ps k0 c).map oV)) (fun i H' => H' M = some (.lst ((nums ((pls ps k0 c).take i)).map V.int)) ∧ Same G2 H') ⟨upd_same, same_upd hM⟩ (fun _ _ _ ⟨_, s3⟩ => same_tup s3 _ _ (SqT.of gT)) ?_ ?_
      · rintro i x F F' hi ⟨gM, s3⟩ ⟨rfl, hx⟩
        obtain ⟨o, ho, rfl⟩ : ∃ o, (pls ps k0 c)[i]? = some o ∧ oV o = x := by
          rw [List.getElem?_map] at hx
          cases q : (pls ps k0 c)[i]? with
          | none => rw [q] at hx; cases hx
          | some o => rw [q] at hx; exact ⟨o, rfl, Option.some.inj hx⟩
        have tk : nums ((pls ps k0 c).take (i + 1)) = nums ((pls ps k0 c).take i) ++ nums [o] := by
          unfold nums
          rw [List.take_add_one, ho, List.filterMap_append, List.map_append]
          rfl
        refine ⟨rfl, _, rfl, rfl, _, rfl, ?_⟩
        cases o with
        | none =>
          refine iteF ⟨?_, s3⟩
          rw [tk, show nums [none] = [] from rfl, List.append_nil]
          exact gM
        | some j =>
          have nl : (nums ((pls ps k0 c).take i)).length ≤ 1000 := by
            unfold nums
            rw [List.length_map]
            refine Nat.le_trans (List.length_filterMap_le _ _) ?_
            rw [List.length_take]
            omega
          refine iteT ⟨_, rfl, _, gM, by rw [List.length_map, sizeLine_eq]; omega, ?_, fun b o e => (upd_ne (ne_of_none e hM)).trans (s3 _ _ e)⟩
          rw [upd_same, tk, List.map_append]
          rfl
      · rintro F ⟨gM, s3⟩
        rw [List.length_map, List.take_length] at gM
        refine ⟨Nat.zero_le _, fun p hp => ?_⟩
        have sp := same_upd (o := .lst []) hp
        refine ⟨intD (nums (pls ps k0 c)), .list [], int_dp (SqL.of (sp _ _ gM)), .lst (SqL.of upd_same) .nil, int_shaped _, nil_shaped, _, rfl, ?_⟩
        rw [show PyData.eqv (intD (nums (pls ps k0 c))) (.list []) = decide (nums (pls ps k0 c) = []) from ?_]
        · have sAll := (sm2.trans s3).trans sp
          have hT2 : SqT K (upd F p (.lst [])) T ((pls ps k0 c).map oV) := same_tup (s3.trans sp) _ _ (SqT.of gT)
          by_cases e : some1 (pls ps k0 c) = true
          · rw [decide_eq_false (fun h => by rw [(nums_nil _).mp h] at e; cases e)]
            refine iteT ⟨_, rfl, k _ _ sAll (fun k' h => ?_) fun h => ?_⟩
            · unfold stepP at h
              rw [if_pos e] at h
              cases h
              exact ⟨T, rfl, hT2⟩
            · unfold stepP at h
              rw [if_pos e] at h
              cases h
          · rw [decide_eq_true ((nums_nil _).mpr (by simpa using e))]
            refine iteF (k _ _ sAll (fun k' h => ?_) fun _ => rfl)
            unfold stepP at h
            rw [if_neg e] at h
            cases h
        · rw [int_eqv_nil]
          cases nums (pls ps k0 c) <;> rfl
theorem scStart : FnScope ["_law_products_here"] ["_law_products_here"] (defScope sLStart) := ⟨rfl, rfl, rfl, by decide +kernel, rfl, by decide +kernel, by decide +kernel⟩
theorem ok_start (D : Df K mg "_law_start" sLStart ["_law_products_here"]) (ml : mg "len" = none) (mt : mg "tuple" = none) : FnOk P w K mg base CX0 1 D.f D.fd ["_law_products_here"] (spStart K) := by
  refine D.F.ok scStart (fun vs H Q E h => ?_) (fun cdv A outer s H vs Q E hr h => ?_)
  · obtain ⟨a, us, ps, z, rfl, _⟩ := h
    rfl
  · obtain ⟨a, us, ps, z, rfl, ha, iL, al, ok, pl, k⟩ := h
    have ul := iL.len
    refine ⟨_, (pss_one (ps_ret (pe_ifExp (pt_cmpR (op_neD hr.units) (pv 0) (pe_lst pa_nil) (nomark _)) (pe_callTy call_tuple_of (by rfl) mt (by decide +kernel) (pa_cons (pe_op op_rep (pe_lst (pa_cons pe_int pa_nil)) (pe_callB call_len_seq (by rfl) ml PySem.boot_len (pa_cons (pv 0) pa_nil))) pa_nil)) pe_non))), ?_⟩
    refine ⟨.ref a, rfl, Nat.zero_le _, fun l2 hl2 => ?_⟩
    have s2 := same_upd (o := .lst []) hl2
    refine ⟨.list (ps.map pD), .list [], .lst (same_lst s2 ha) (iL.mono (same_tup s2)).dp, .lst (SqL.of upd_same) .nil, ps_shaped al ok, nil_shaped, _, rfl, ?_⟩
    rw [show PyData.eqv (.list (ps.map pD)) (.list []) = decide (ps = []) from pl_eqv _ []]
    by_cases e : ps = []
    · rw [decide_eq_true e]
      refine iteF (k _ _ s2 (fun k' h => ?_) fun _ => rfl)
      unfold startP at h
      rw [if_pos e] at h
      cases h
    · rw [decide_eq_false e]
      refine iteT ?_
      generalize upd H l2 (.lst []) = H2 at s2 ⊢
      refine ⟨by show 1 ≤ sizeLine; decide, fun l3 hl3 => ?_⟩
      have s3 := same_upd (o := .lst [V.int 0]) hl3
      refine ⟨.ref a, rfl, a, us, rfl, .inl (same_lst (s2.trans s3) ha), l3, (us.length : Int), [V.int 0], rfl, rfl, upd_same, by omega, by omega, by show 1 * _ ≤ _; rw [sizeLine_eq]; omega, fun l4 hl4 => ?_⟩
      have s4 := same_upd (o := .lst (List.replicate (us.length : Int).toNat [V.int 0]).flatten) hl4
      refine ⟨l4, _, rfl, .inl ⟨SqL.of upd_same, fun T hT => ?_⟩⟩
      have er : ∀ n : Nat, (List.replicate n [V.int 0]).flatten = List.replicate n (V.int 0) := fun n => by
        induction n with
        | zero => rfl
        | succ n ih => rw [List.replicate_succ, List.flatten_cons, ih]; rfl
      have sAll := ((s2.trans s3).trans s4).trans (same_upd (o := .tup (List.replicate (us.length : Int).toNat [V.int 0]).flatten) hT)
      refine k _ _ sAll (fun k' h => ⟨T, rfl, ?_⟩) fun h => ?_
      · unfold startP at h
        rw [if_neg e] at h
        cases h
        have := SqT.of (K := K) (upd_same (H := upd (upd H2 l3 (.lst [V.int 0])) l4 (.lst (List.replicate (us.length : Int).toNat [V.int 0]).flatten)) (a := T) (o := .tup (List.replicate (us.length : Int).toNat [V.int 0]).flatten))
        rw [show (ps.map fun _ => (some 0 : Option Nat)).map oV = (List.replicate (us.length : Int).toNat [V.int 0]).flatten from ?_]
        · exact this
        · rw [er, Int.toNat_natCast, ul, List.map_map, List.map_eq_replicate_iff.mpr]
          intro x _
          rfl
      · unfold startP at h
        rw [if_neg e] at h
        cases h
end
end DW
/-! k43: numbers as they are first reached (X44d's maths) -/
namespace DW
open PySem PySem.Spec PyProof.Rows L2 TL
set_option autoImplicit false
theorem lg_over {z : Str} {q : List Fc} (ok : ∀ f ∈ q, FOk z f) : ∀ {w : List Nat}, Lg q w → ∀ c ∈ w, c ∈ tl z
  | [], _, c, hc => (nomatch hc)
  | d :: w, h, c, hc => by
    rcases List.mem_cons.mp hc with e | e
    · obtain ⟨g, hg, hd⟩ := h.has
      rw [e]
      exact (ok g hg).2.1.subset hd
    · exact lg_over ok h.tail c e
def kn (es : List (Option Nat)) : Nat := es.foldl (fun m o => if o = some m then m + 1 else m) 1
theorem kn_snoc (es : List (Option Nat)) (o : Option Nat) : kn (es ++ [o]) = if o = some (kn es) then kn es + 1 else kn es := by
  unfold kn
  rw [List.foldl_append]
  rfl
theorem Seen.eq {es : List (Option Nat)} {m : Nat} (h : Seen es m) : m = kn es := by
  induction h with
  | nil => rfl
  | none r ih => rw [kn_snoc, if_neg (by simp), ← ih]
  | old r h ih => rw [kn_snoc, if_neg (by rw [← ih]; intro e; cases e; omega), ← ih]
  | new r ih => rw [kn_snoc, if_pos (by rw [← ih]), ← ih]
theorem Seen.pre {es : List (Option Nat)} {m : Nat} (h : Seen es m) : ∀ es1 es2, es = es1 ++ es2 → Seen es1 (kn es1) := by
  have self : ∀ {es m}, Seen es m → Seen es (kn es) := fun h => by
    have e := h.eq
    rw [e] at h
    exact h
  induction h with
  | nil =>
    intro es1 es2 e
    have e1 : es1 = [] := (List.append_eq_nil_iff.mp e.symm).1
    rw [e1]
    exact .nil
  | none r ih =>
    intro es1 es2 e
    rcases List.eq_nil_or_concat es2 with e2 | ⟨l, x, e2⟩
    · rw [e2, List.append_nil] at e
      rw [← e]
      exact self (.none r)
    · rw [e2, List.concat_eq_append, ← List.append_assoc] at e
      exact ih es1 l (List.append_inj_left' e rfl)
  | old r h ih =>
    intro es1 es2 e
    rcases List.eq_nil_or_concat es2 with e2 | ⟨l, x, e2⟩
    · rw [e2, List.append_nil] at e
      rw [← e]
      exact self (.old r h)
    · rw [e2, List.concat_eq_append, ← List.append_assoc] at e
      exact ih es1 l (List.append_inj_left' e rfl)
  | new r ih =>
    intro es1 es2 e
    rcases List.eq_nil_or_concat es2 with e2 | ⟨l, x, e2⟩
    · rw [e2, List.append_nil] at e
      rw [← e]
      exact self (.new r)
    · rw [e2, List.concat_eq_append, ← List.append_assoc] at e
      exact ih es1 l (List.append_inj_left' e rfl)
theorem Seen.last {es : List (Option Nat)} {o : Option Nat} {m : Nat} (h : Seen (es ++ [o]) m) : ∀ k, o = some k → k ≤ kn es := by
  intro k e
  subst e
  generalize he : es ++ [some k] = l at h
  cases h with
  | nil => simp at he
  | none r =>
    have := List.append_inj_right' he rfl
    simp at this
  | @old es' _ k' r h =>
    have e1 := List.append_inj_left' he rfl
    have e2 := List.append_inj_right' he rfl
    simp at e2
    rw [e1, e2, ← r.eq]
    omega
  | @new es' m' r =>
    have e1 := List.append_inj_left' he rfl
    have e2 := List.append_inj_right' he rfl
    simp at e2
    rw [e1, e2, ← r.eq]
    omega
theorem Seen.lt {es : List (Option Nat)} {m : Nat} (h : Seen es m) : 0 < m ∧ ∀ k, some k ∈ es → k < m := by
  induction h with
  | nil => exact ⟨by decide, fun k hk => (nomatch hk)⟩
  | none r ih =>
    refine ⟨ih.1, fun k hk => ?_⟩
    rcases List.mem_append.mp hk with e | e
    · exact ih.2 k e
    · simp at e
  | old r h ih =>
    refine ⟨ih.1, fun k hk => ?_⟩
    rcases List.mem_append.mp hk with e | e
    · exact ih.2 k e
    · simp at e
      omega
  | new r ih =>
    refine ⟨by omega, fun k hk => ?_⟩
    rcases List.mem_append.mp hk with e | e
    · have := ih.2 k e
      omega
    · simp at e
      omega
theorem run_low {z : Str} {zs : List (List Fc)} {S : List (List (List Fc))} {rows : List (List (Option Nat))} (A : Au z zs S rows) {N : Nat} (cl : ∀ p, p < N → ∀ row, rows[p]? = some row → ∀ k, some k ∈ row → k < N) : ∀ (w : List Nat) {p : Nat} {s : List (List Fc)}, p < N → S[p]? = some s → (∃ u, HasL s (w ++ u)) → ∃ p' s', p' < N ∧ S[p']? = some s' ∧ ∀ u, HasL s (w ++ u) ↔ HasL s' u
  | [], p, s, hp, hs, _ => ⟨p, s, hp, hs, fun u => Iff.rfl⟩
  | c :: w, p, s, hp, hs, ⟨u, h⟩ => by
    have hl := (List.getElem?_eq_some_iff.mp hs).1
    have e : rows[p]? = some (rows[p]'(by rw [A.full]; exact hl)) := List.getElem?_eq_getElem _
    have R := A.nx p s _ hs e
    have cz : c ∈ tl z := by
      obtain ⟨q, hq, hg⟩ := h
      exact lg_over ((A.can s (List.mem_of_getElem? hs)).1.ok q hq) hg c List.mem_cons_self
    obtain ⟨n, hn⟩ := List.getElem?_of_mem cz
    rcases R.at_ n c hn with ⟨_, no⟩ | ⟨k, t, ek, ht, lg⟩
    · exact absurd h (no (w ++ u))
    · obtain ⟨p', s', h1, h2, h3⟩ := run_low A cl w (cl p hp _ e k (List.mem_of_getElem? ek)) ht ⟨u, (lg _).mp h⟩
      exact ⟨p', s', h1, h2, fun v => (lg _).trans (h3 v)⟩
/-- a row is done only after its state is known -/
theorem Au.early {z : Str} (al : Alph z) {zs : List (List Fc)} {S : List (List (List Fc))} {rows : List (List (Option Nat))} (A : Au z zs S rows) {i : Nat} (hi : i < rows.length) : i < kn (rows.take i).flatten := by
  refine Classical.byContradiction fun ge => ?_
  have e : rows.flatten = (rows.take i).flatten ++ (rows.drop i).flatten := by rw [← List.flatten_append, List.take_append_drop]
  have sn := A.ord.pre _ _ e
  obtain ⟨n0, low⟩ := sn.lt
  have cl : ∀ p, p < kn (rows.take i).flatten → ∀ row, rows[p]? = some row → ∀ k, some k ∈ row → k < kn (rows.take i).flatten := fun p hp row hr k hk => by
    refine low k (List.mem_flatten.mpr ⟨row, ?_, hk⟩)
    refine List.mem_of_getElem? (i := p) ?_
    rw [List.getElem?_take, if_pos (by omega)]
    exact hr
  obtain ⟨wd, wl, hw⟩ := A.wd
  have hiS : i < S.length := by rw [← A.full]; exact hi
  have es : S[i]? = some S[i] := List.getElem?_eq_getElem hiS
  have ew : wd[i]? = some (wd[i]'(by rw [wl]; exact hiS)) := List.getElem?_eq_getElem _
  obtain ⟨_, lang⟩ := hw i _ _ ew es
  obtain ⟨Ci, ne⟩ := A.can _ (List.getElem_mem hiS)
  obtain ⟨q, hq⟩ := List.exists_mem_of_ne_nil _ ne
  obtain ⟨p', s', h1, h2, h3⟩ := run_low A cl (wd[i]'(by rw [wl]; exact hiS)) n0 A.hd ⟨[], (lang []).mp ⟨q, hq, Lg.empty q⟩⟩
  have e2 : S[i] = s' := can_uniq al Ci (A.can s' (List.mem_of_getElem? h2)).1 fun u => (lang u).trans (h3 u)
  have hp' := (List.getElem?_eq_some_iff.mp h2)
  have e3 : S[p']'hp'.1 = S[i] := hp'.2.trans e2.symm
  have pw := List.pairwise_iff_getElem.mp A.nd
  rcases Nat.lt_trichotomy p' i with lt | eq | gt
  · exact pw p' i hp'.1 hiS lt e3
  · omega
  · exact pw i p' hiS hp'.1 gt e3.symm
end DW
/-! k43: an automaton in its order is told by its language -/
namespace DW
open PySem PySem.Spec PyProof.Rows L2 TL
set_option autoImplicit false
/-- an automaton whose states are languages, all different, numbered as they are first reached -/
structure AuP (cs : List Nat) (L0 : List Nat → Prop) (n : Nat) (T : Nat → List Nat → Prop) (rows : List (List (Option Nat))) : Prop where
  pos : 0 < n
  hd : ∀ u, T 0 u ↔ L0 u
  len : rows.length = n
  ne : ∀ i, i < n → T i []
  apart : ∀ i j, i < n → j < n → (∀ u, T i u ↔ T j u) → i = j
  wide : ∀ (i : Nat) (row : List (Option Nat)), rows[i]? = some row → row.length = cs.length
  nx : ∀ (i : Nat) (row : List (Option Nat)), rows[i]? = some row → ∀ (j c : Nat), cs[j]? = some c → (row[j]? = some none ∧ ∀ u, ¬ T i (c :: u)) ∨ ∃ k, row[j]? = some (some k) ∧ k < n ∧ ∀ u, T i (c :: u) ↔ T k u
  ord : Seen rows.flatten n
  early : ∀ i, i < n → i < kn (rows.take i).flatten
theorem kn_mono (es : List (Option Nat)) : ∀ es2 : List (Option Nat), kn es ≤ kn (es ++ es2) := by
  have h : ∀ (es2 : List (Option Nat)) (m : Nat), m ≤ es2.foldl (fun m o => if o = some m then m + 1 else m) m := by
    intro es2
    induction es2 with
    | nil => exact fun m => Nat.le_refl _
    | cons o r ih =>
      intro m
      refine Nat.le_trans ?_ (ih _)
      show m ≤ if o = some m then m + 1 else m
      split <;> omega
  intro es2
  unfold kn
  rw [List.foldl_append]
  exact h es2 _
theorem AuP.row {cs : List Nat} {L0 : List Nat → Prop} {n m : Nat} {T T' : Nat → List Nat → Prop} {rows rows' : List (List (Option Nat))} (A : AuP cs L0 n T rows) (B : AuP cs L0 m T' rows') {i : Nat} {r r' : List (Option Nat)} {es : List (Option Nat)}
    (hr : rows[i]? = some r) (hr' : rows'[i]? = some r') (same : ∀ u, T i u ↔ T' i u) (pa : ∃ x, rows.flatten = es ++ r ++ x) (pb : ∃ x, rows'.flatten = es ++ r' ++ x) (eq : ∀ k, k < kn es → ∀ u, T k u ↔ T' k u) :
    ∀ j, j ≤ cs.length → r.take j = r'.take j ∧ ∀ k, k < kn (es ++ r.take j) → ∀ u, T k u ↔ T' k u
  | 0, _ => ⟨by rw [List.take_zero, List.take_zero], fun k hk => eq k (by rw [List.take_zero, List.append_nil] at hk; exact hk)⟩
  | j + 1, hj => by
    obtain ⟨e, ih⟩ := AuP.row A B hr hr' same pa pb eq j (Nat.le_of_succ_le hj)
    have lr := A.wide i r hr
    have lr' := B.wide i r' hr'
    have hc : cs[j]? = some cs[j] := List.getElem?_eq_getElem hj
    have ho : r[j]? = some (r[j]'(by omega)) := List.getElem?_eq_getElem _
    have ho' : r'[j]? = some (r'[j]'(by omega)) := List.getElem?_eq_getElem _
    have na := A.nx i r hr j _ hc
    have nb := B.nx i r' hr' j _ hc
    rw [ho] at na
    rw [ho'] at nb
    have tk : r.take (j + 1) = r.take j ++ [r[j]'(by omega)] := by rw [List.take_add_one, ho]; rfl
    have tk' : r'.take (j + 1) = r'.take j ++ [r'[j]'(by omega)] := by rw [List.take_add_one, ho']; rfl
    obtain ⟨x, ex⟩ := pa
    obtain ⟨x', ex'⟩ := pb
    have sa : Seen (es ++ r.take j ++ [r[j]'(by omega)]) (kn (es ++ r.take j ++ [r[j]'(by omega)])) := by
      refine A.ord.pre _ (r.drop (j + 1) ++ x) ?_
      rw [ex, List.append_assoc es (r.take j), ← tk, ← List.append_assoc, List.append_assoc es (r.take (j + 1)), List.take_append_drop]
    have sb : Seen (es ++ r.take j ++ [r'[j]'(by omega)]) (kn (es ++ r.take j ++ [r'[j]'(by omega)])) := by
      refine B.ord.pre _ (r'.drop (j + 1) ++ x') ?_
      rw [e, ex', List.append_assoc es (r'.take j), ← tk', ← List.append_assoc, List.append_assoc es (r'.take (j + 1)), List.take_append_drop]
    have km : kn (es ++ r.take j) ≤ m := by
      rw [B.ord.eq, ex', e]
      have : es ++ r' ++ x' = (es ++ r'.take j) ++ (r'.drop j ++ x') := by
        rw [List.append_assoc es (r'.take j), ← List.append_assoc (r'.take j), List.take_append_drop, List.append_assoc]
      rw [this]
      exact kn_mono _ _
    have kn' : kn (es ++ r.take j) ≤ n := by
      rw [A.ord.eq, ex]
      have : es ++ r ++ x = (es ++ r.take j) ++ (r.drop j ++ x) := by
        rw [List.append_assoc es (r.take j), ← List.append_assoc (r.take j), List.take_append_drop, List.append_assoc]
      rw [this]
      exact kn_mono _ _
    have la := sa.last
    have lb := sb.last
    rw [tk, tk', ← e]
    generalize r[j]'(by omega) = o at na la
    generalize r'[j]'(by omega) = o' at nb lb
    generalize cs[j] = c at na nb
    rw [← List.append_assoc, kn_snoc]
    rcases na with ⟨ea, no⟩ | ⟨k, ea, hk, ta⟩
    · rw [Option.some.inj ea]
      rcases nb with ⟨eb, _⟩ | ⟨k', eb, hk', tb⟩
      · rw [Option.some.inj eb]
        exact ⟨rfl, fun k hk => ih k (by rw [if_neg (by simp)] at hk; exact hk)⟩
      · exact absurd ((same [c]).mpr ((tb []).mpr (B.ne k' hk'))) (no [])
    · rcases nb with ⟨eb, no⟩ | ⟨k', eb, hk', tb⟩
      · exact absurd ((same [c]).mp ((ta []).mpr (A.ne k hk))) (no [])
      · have eo := Option.some.inj ea
        have eo' := Option.some.inj eb
        have kle := la k eo
        have kle' := lb k' eo'
        have tt : ∀ u, T k u ↔ T' k' u := fun u => (ta u).symm.trans ((same _).trans (tb u))
        rw [eo, eo']
        generalize hK : kn (es ++ r.take j) = K at *
        rcases Nat.lt_or_ge k K with lt | ge
        · have : k = k' := B.apart k k' (by omega) hk' fun u => (ih k lt u).symm.trans (tt u)
          rw [this]
          refine ⟨rfl, fun q hq => ih q ?_⟩
          rw [if_neg (by intro z; cases z; omega)] at hq
          exact hq
        · have e1 : k = K := Nat.le_antisymm kle ge
          rcases Nat.lt_or_ge k' K with lt' | ge'
          · have : k = k' := A.apart k k' hk (by omega) fun u => (tt u).trans (ih k' lt' u).symm
            omega
          · have e2 : k' = K := Nat.le_antisymm kle' ge'
            rw [e1, e2]
            refine ⟨rfl, fun q hq => ?_⟩
            rw [if_pos rfl] at hq
            rcases Nat.lt_or_ge q K with h | h
            · exact ih q h
            · have : q = K := by omega
              rw [this]
              rw [e1, e2] at tt
              exact tt
theorem AuP.pre {cs : List Nat} {L0 : List Nat → Prop} {n m : Nat} {T T' : Nat → List Nat → Prop} {rows rows' : List (List (Option Nat))} (A : AuP cs L0 n T rows) (B : AuP cs L0 m T' rows') :
    ∀ i, i ≤ n → i ≤ m ∧ rows.take i = rows'.take i ∧ ∀ k, k < kn (rows.take i).flatten → ∀ u, T k u ↔ T' k u
  | 0, _ => ⟨Nat.zero_le _, by rw [List.take_zero, List.take_zero], fun k hk u => by
      have : k = 0 := by
        rw [List.take_zero, List.flatten_nil] at hk
        have : k < 1 := hk
        omega
      rw [this]
      exact (A.hd u).trans (B.hd u).symm⟩
  | i + 1, hi => by
    obtain ⟨im, e, eq⟩ := AuP.pre A B i (Nat.le_of_succ_le hi)
    have ea := A.early i hi
    have lt : i < m := by
      refine Nat.lt_of_lt_of_le ea ?_
      rw [e, B.ord.eq]
      have : rows'.flatten = (rows'.take i).flatten ++ (rows'.drop i).flatten := by rw [← List.flatten_append, List.take_append_drop]
      rw [this]
      exact kn_mono _ _
    have hr : rows[i]? = some (rows[i]'(by rw [A.len]; exact hi)) := List.getElem?_eq_getElem _
    have hr' : rows'[i]? = some (rows'[i]'(by rw [B.len]; exact lt)) := List.getElem?_eq_getElem _
    have tk : rows.take (i + 1) = rows.take i ++ [rows[i]'(by rw [A.len]; exact hi)] := by rw [List.take_add_one, hr]; rfl
    have tk' : rows'.take (i + 1) = rows'.take i ++ [rows'[i]'(by rw [B.len]; exact lt)] := by rw [List.take_add_one, hr']; rfl
    have lr := A.wide i _ hr
    have lr' := B.wide i _ hr'
    have pa : ∃ x, rows.flatten = (rows.take i).flatten ++ (rows[i]'(by rw [A.len]; exact hi)) ++ x := by
      refine ⟨(rows.drop (i + 1)).flatten, ?_⟩
      have : rows.flatten = (rows.take (i + 1)).flatten ++ (rows.drop (i + 1)).flatten := by rw [← List.flatten_append, List.take_append_drop]
      rw [this, tk, List.flatten_append]
      simp
    have pb : ∃ x, rows'.flatten = (rows.take i).flatten ++ (rows'[i]'(by rw [B.len]; exact lt)) ++ x := by
      refine ⟨(rows'.drop (i + 1)).flatten, ?_⟩
      have : rows'.flatten = (rows'.take (i + 1)).flatten ++ (rows'.drop (i + 1)).flatten := by rw [← List.flatten_append, List.take_append_drop]
      rw [this, tk', List.flatten_append, e]
      simp
    obtain ⟨er, eq2⟩ := AuP.row A B hr hr' (eq i ea) pa pb eq cs.length (Nat.le_refl _)
    rw [← lr, List.take_length] at eq2
    have er : rows[i]'(by rw [A.len]; exact hi) = rows'[i]'(by rw [B.len]; exact lt) := by
      rw [← lr, List.take_length, lr, ← lr', List.take_length] at er
      exact er
    refine ⟨lt, by rw [tk, tk', e, er], fun k hk => eq2 k ?_⟩
    rw [tk, List.flatten_append] at hk
    simpa using hk
theorem AuP.uniq {cs : List Nat} {L0 : List Nat → Prop} {n m : Nat} {T T' : Nat → List Nat → Prop} {rows rows' : List (List (Option Nat))} (A : AuP cs L0 n T rows) (B : AuP cs L0 m T' rows') : rows = rows' := by
  have h1 := AuP.pre A B n (Nat.le_refl _)
  have h2 := AuP.pre B A m (Nat.le_refl _)
  have e : n = m := Nat.le_antisymm h1.1 h2.1
  have := h1.2.1
  rw [← A.len, List.take_length, A.len, e, ← B.len, List.take_length] at this
  exact this
/-- the automaton of a language is such a one -/
theorem Au.auP {z : Str} (al : Alph z) {zs : List (List Fc)} {S : List (List (List Fc))} {rows : List (List (Option Nat))} (A : Au z zs S rows) : AuP (tl z) (HasL zs) S.length (fun k u => ∃ s, S[k]? = some s ∧ HasL s u) rows := by
  have hS0 := (List.getElem?_eq_some_iff.mp A.hd).1
  have get : ∀ {i : Nat} {s : List (List Fc)}, S[i]? = some s → ∀ u, (∃ s', S[i]? = some s' ∧ HasL s' u) ↔ HasL s u := by
    intro i s e u
    constructor
    · rintro ⟨s', e', h⟩
      rw [e] at e'
      rw [Option.some.inj e']
      exact h
    · exact fun h => ⟨s, e, h⟩
  refine ⟨hS0, fun u => get A.hd u, A.full, fun i hi => ?_, fun i j hi hj h => ?_, fun i row hr => ?_, fun i row hr j c hc => ?_, A.ord, fun i hi => A.early al (by rw [A.full]; exact hi)⟩
  · obtain ⟨q, hq⟩ := List.exists_mem_of_ne_nil _ (A.can _ (List.getElem_mem hi)).2
    exact ⟨S[i], List.getElem?_eq_getElem hi, q, hq, Lg.empty q⟩
  · have ei : S[i]? = some S[i] := List.getElem?_eq_getElem hi
    have ej : S[j]? = some S[j] := List.getElem?_eq_getElem hj
    have e : S[i] = S[j] := can_uniq al (A.can _ (List.getElem_mem hi)).1 (A.can _ (List.getElem_mem hj)).1 fun u => (get ei u).symm.trans ((h u).trans (get ej u))
    have pw := List.pairwise_iff_getElem.mp A.nd
    rcases Nat.lt_trichotomy i j with lt | eq | gt
    · exact absurd e (pw i j hi hj lt)
    · exact eq
    · exact absurd e.symm (pw j i hj hi gt)
  · have hi : i < S.length := by
      rw [← A.full]
      exact (List.getElem?_eq_some_iff.mp hr).1
    exact (A.nx i _ row (List.getElem?_eq_getElem hi) hr).len
  · have hi : i < S.length := by
      rw [← A.full]
      exact (List.getElem?_eq_some_iff.mp hr).1
    have ei : S[i]? = some S[i] := List.getElem?_eq_getElem hi
    rcases (A.nx i _ row ei hr).at_ j c hc with ⟨h1, h2⟩ | ⟨k, s', h1, h2, h3⟩
    · exact .inl ⟨h1, fun u hu => h2 u ((get ei _).mp hu)⟩
    · exact .inr ⟨k, h1, (List.getElem?_eq_some_iff.mp h2).1, fun u => (get ei _).trans ((h3 u).trans (get h2 u).symm)⟩
end DW
/-! k43: states merged until nothing moves -/
namespace DW
open PySem PySem.Spec PyProof.Rows L2 TL
set_option autoImplicit false
abbrev Pl : Type := List (Option Nat)
/-- what a state's key shows: its class, and the classes behind each letter -/
def keyP (ps : List (List Fc)) (cs : List Nat) (f : Pl → Nat) (k : Pl) : List (Option Nat) := some (f k) :: cs.map fun c => (stepP ps k c).map f
/-- f has at least m values on Q -/
def Vals_ (Q : List Pl) (f : Pl → Nat) (m : Nat) : Prop := ∃ vs : List Nat, vs.Nodup ∧ vs.length = m ∧ ∀ v ∈ vs, ∃ k ∈ Q, f k = v
/-- g tells apart what f tells apart, and has no more values: then they tell the same apart -/
theorem same_part {Q : List Pl} {f g : Pl → Nat} {m n : Nat} (fin : ∀ k ∈ Q, ∀ l ∈ Q, g k = g l → f k = f l) (hf : Vals_ Q f m) (ng : ∀ k ∈ Q, g k < n) (nm : n ≤ m) : ∀ k ∈ Q, ∀ l ∈ Q, f k = f l → g k = g l := by
  intro k hk l hl e
  refine Classical.byContradiction fun ne => ?_
  obtain ⟨vs, nd, len, ex⟩ := hf
  -- a value of f for each value of g; that of g k once only
  have cl : ∀ v ∈ vs, ∃ q ∈ Q, f q = v ∧ g q ≠ g k := fun v hv => by
    obtain ⟨q, hq, e1⟩ := ex v hv
    by_cases z : g q = g k
    · refine ⟨l, hl, ?_, fun z' => ne z'.symm⟩
      rw [← e, ← fin q hq k hk z, e1]
    · exact ⟨q, hq, e1, z⟩
  have key : ∀ us : List Nat, us.Nodup → (∀ v ∈ us, ∃ q ∈ Q, f q = v ∧ g q ≠ g k) → ∃ ws : List Nat, ws.Nodup ∧ ws.length = us.length ∧ (∀ w ∈ ws, w < n ∧ w ≠ g k) ∧ ∀ w ∈ ws, ∃ q ∈ Q, g q = w ∧ f q ∈ us := by
    intro us
    induction us with
    | nil => exact fun _ _ => ⟨[], .nil, rfl, fun w h => (nomatch h), fun w h => (nomatch h)⟩
    | cons v us ih =>
      intro nd h
      obtain ⟨nv, nd'⟩ := List.nodup_cons.mp nd
      obtain ⟨ws, h1, h2, h3, h4⟩ := ih nd' fun x hx => h x (List.mem_cons_of_mem _ hx)
      obtain ⟨q, hq, e1, e2⟩ := h v List.mem_cons_self
      refine ⟨g q :: ws, List.nodup_cons.mpr ⟨fun hm => ?_, h1⟩, by rw [List.length_cons, List.length_cons, h2], fun w hw => ?_, fun w hw => ?_⟩
      · obtain ⟨q', hq', e3, e4⟩ := h4 _ hm
        rw [fin q' hq' q hq e3, e1] at e4
        exact nv e4
      · rcases List.mem_cons.mp hw with z | z
        · rw [z]
          exact ⟨ng q hq, e2⟩
        · exact h3 w z
      · rcases List.mem_cons.mp hw with z | z
        · exact ⟨q, hq, z.symm, by rw [e1]; exact List.mem_cons_self⟩
        · obtain ⟨q', a, b, c⟩ := h4 w z
          exact ⟨q', a, b, List.mem_cons_of_mem _ c⟩
  obtain ⟨ws, h1, h2, h3, _⟩ := key vs nd cl
  have : (g k :: ws).length ≤ (List.range n).length := (List.nodup_cons.mpr ⟨fun hm => (h3 _ hm).2 rfl, h1⟩).length_le_of_subset fun w hw => by
    rcases List.mem_cons.mp hw with z | z
    · rw [z]
      exact List.mem_range.mpr (ng k hk)
    · exact List.mem_range.mpr (h3 w z).1
  rw [List.length_cons, List.length_range, h2, len] at this
  omega
/-- closed under steps -/
def Closed (ps : List (List Fc)) (cs : List Nat) (Q : List Pl) : Prop := (∀ k ∈ Q, Vk ps k) ∧ ∀ k ∈ Q, ∀ c ∈ cs, ∀ k', stepP ps k c = some k' → k' ∈ Q
def SameL (ps : List (List Fc)) (cs : List Nat) (k l : Pl) : Prop := ∀ u, (∀ c ∈ u, c ∈ cs) → (HasK ps k u ↔ HasK ps l u)
theorem keyP_at {ps : List (List Fc)} {cs : List Nat} {f : Pl → Nat} {k l : Pl} (h : keyP ps cs f k = keyP ps cs f l) : f k = f l ∧ ∀ c ∈ cs, (stepP ps k c).map f = (stepP ps l c).map f := by
  injection h with h1 h2
  refine ⟨Option.some.inj h1, fun c hc => ?_⟩
  obtain ⟨j, hj⟩ := List.getElem?_of_mem hc
  have := congrArg (fun l : List (Option Nat) => l[j]?) h2
  simp only [List.getElem?_map, hj, Option.map_some] at this
  exact Option.some.inj this
/-- a partition that its own keys do not refine: merged states read the same words -/
theorem stable_same {ps : List (List Fc)} {cs : List Nat} {Q : List Pl} {f : Pl → Nat} (cl : Closed ps cs Q) (st : ∀ k ∈ Q, ∀ l ∈ Q, f k = f l → keyP ps cs f k = keyP ps cs f l) : ∀ (u : List Nat), (∀ c ∈ u, c ∈ cs) → ∀ k ∈ Q, ∀ l ∈ Q, f k = f l → HasK ps k u → HasK ps l u
  | [], _, k, hk, l, hl, _, _ => hasK_nil (cl.1 l hl).1 (cl.1 l hl).2
  | c :: u, hc, k, hk, l, hl, e, h => by
    obtain ⟨k', e1, h1⟩ := (step_lang (cl.1 k hk) u).mp h
    have e2 := (keyP_at (st k hk l hl e)).2 c (hc c List.mem_cons_self)
    rw [e1] at e2
    cases q : stepP ps l c with
    | none => rw [q] at e2; cases e2
    | some l' =>
      rw [q] at e2
      have e3 : f k' = f l' := Option.some.inj e2
      refine (step_lang (cl.1 l hl) u).mpr ⟨l', q, ?_⟩
      exact stable_same cl st u (fun d hd => hc d (List.mem_cons_of_mem _ hd)) k' (cl.2 k hk c (hc c List.mem_cons_self) k' e1) l' (cl.2 l hl c (hc c List.mem_cons_self) l' q) e3 h1
/-- states that read the same words are never told apart -/
theorem key_same {ps : List (List Fc)} {cs : List Nat} {Q : List Pl} {f : Pl → Nat} (cl : Closed ps cs Q) (sf : ∀ k ∈ Q, ∀ l ∈ Q, SameL ps cs k l → f k = f l) {k l : Pl} (hk : k ∈ Q) (hl : l ∈ Q) (h : SameL ps cs k l) : keyP ps cs f k = keyP ps cs f l := by
  unfold keyP
  rw [sf k hk l hl h]
  congr 1
  refine List.map_congr_left fun c hc => ?_
  have half : ∀ {a b : Pl}, a ∈ Q → b ∈ Q → SameL ps cs a b → ∀ a', stepP ps a c = some a' → ∃ b', stepP ps b c = some b' := by
    intro a b ha hb hs a' e
    have va := cl.1 a' (cl.2 a ha c hc a' e)
    have h1 : HasK ps a [c] := (step_lang (cl.1 a ha) []).mpr ⟨a', e, hasK_nil va.1 va.2⟩
    obtain ⟨b', e2, _⟩ := (step_lang (cl.1 b hb) []).mp ((hs [c] (fun d hd => by rw [List.mem_singleton.mp hd]; exact hc)).mp h1)
    exact ⟨b', e2⟩
  have hs : SameL ps cs l k := fun u hu => (h u hu).symm
  cases q : stepP ps k c with
  | none =>
    cases q' : stepP ps l c with
    | none => rfl
    | some l' =>
      obtain ⟨k', e⟩ := half hl hk hs l' q'
      rw [q] at e
      cases e
  | some k' =>
    obtain ⟨l', q'⟩ := half hk hl h k' q
    rw [q']
    show some (f k') = some (f l')
    rw [sf k' (cl.2 k hk c hc k' q) l' (cl.2 l hl c hc l' q') fun u hu => ?_]
    have hcu : ∀ d ∈ c :: u, d ∈ cs := fun d hd => by
      rcases List.mem_cons.mp hd with z | z
      · rw [z]
        exact hc
      · exact hu d z
    have := h (c :: u) hcu
    rw [step_lang (cl.1 k hk) u, step_lang (cl.1 l hl) u, q, q'] at this
    constructor
    · intro hh
      obtain ⟨x, e, hx⟩ := this.mp ⟨k', rfl, hh⟩
      rw [Option.some.inj e]
      exact hx
    · intro hh
      obtain ⟨x, e, hx⟩ := this.mpr ⟨l', rfl, hh⟩
      rw [Option.some.inj e]
      exact hx
end DW
/-! k43: places as keys (from X46b, X49a) -/
namespace DW
open PySem PySem.Spec PyProof.Rows L2 TL
open ND (DO KOks NK NKs valN putN setN Ent)
set_option autoImplicit false
section
variable {P : Program} {w : World} {K : PySem.W.Frag} {H H' : Hp}
def nk : Option Nat → NestedKey
  | none => .none
  | some i => .num (i : Int)
def plKey (k : List (Option Nat)) : NestedKey := .tup (k.map nk)
theorem nk_inj : ∀ {a b : Option Nat}, nk a = nk b → a = b
  | none, none, _ => rfl
  | some i, some j, h => by
    have : (i : Int) = (j : Int) := NestedKey.num.inj h
    rw [show i = j by omega]
  | none, some _, h => by cases h
  | some _, none, h => by cases h
theorem nks_inj : ∀ {k k' : List (Option Nat)}, k.map nk = k'.map nk → k = k'
  | [], [], _ => rfl
  | a :: k, b :: k', h => by
    rw [List.map_cons, List.map_cons] at h
    obtain ⟨h1, h2⟩ := List.cons.inj h
    rw [nk_inj h1, nks_inj h2]
  | [], _ :: _, h => by cases h
  | _ :: _, [], h => by cases h
theorem plKey_inj {k k' : List (Option Nat)} (h : plKey k = plKey k') : k = k' := nks_inj (NestedKey.tup.inj h)
theorem nk_depth : ∀ k : List (Option Nat), NestedKey.depthAll (k.map nk) = 0
  | [] => by simp [NestedKey.depthAll]
  | o :: k => by
    have := nk_depth k
    cases o <;> (simp only [List.map_cons, NestedKey.depthAll, nk, NestedKey.depth, this]; rfl)
theorem plKey_depth (k : List (Option Nat)) : (plKey k).depth ≤ 8 := by
  simp only [plKey, NestedKey.depth, nk_depth]
  omega
theorem nk_nks {K : PySem.W.Frag} {H : Hp} : ∀ k : List (Option Nat), NKs K H (k.map nk) (k.map oV)
  | [] => .nil
  | none :: k => .cons .none (nk_nks k)
  | some i :: k => .cons (.num _) (nk_nks k)
theorem pl_nk {K : PySem.W.Frag} {H : Hp} {k : List (Option Nat)} {b : Addr} (h : SqT K H b (k.map oV)) : NK K H (plKey k) (.ref b) := .tup h (nk_nks k)
/-- the places behind letters, or None -/
def BV (K : PySem.W.Frag) (H : Hp) (v : V) : Option (List (Option Nat)) → Prop
  | none => v = .non
  | some k => ∃ t, v = .ref t ∧ SqT K H t (k.map oV)
theorem BV.mono {K : PySem.W.Frag} {H H' : Hp} (m : ∀ b xs, SqT K H b xs → SqT K H' b xs) {v : V} : ∀ {o : Option (List (Option Nat))}, BV K H v o → BV K H' v o
  | none, h => h
  | some _, ⟨t, e, g⟩ => ⟨t, e, m _ _ g⟩
def BVs (K : PySem.W.Frag) (H : Hp) (vs : List V) (os : List (Option (List (Option Nat)))) : Prop := vs.length = os.length ∧ ∀ (i : Nat) (v : V) (o : Option (List (Option Nat))), vs[i]? = some v → os[i]? = some o → BV K H v o
theorem BVs.mono {K : PySem.W.Frag} {H H' : Hp} (m : ∀ b xs, SqT K H b xs → SqT K H' b xs) {vs : List V} {os : List (Option (List (Option Nat)))} (h : BVs K H vs os) : BVs K H' vs os := ⟨h.1, fun i v o a b => (h.2 i v o a b).mono m⟩
theorem BVs.snoc {K : PySem.W.Frag} {H : Hp} {vs : List V} {os : List (Option (List (Option Nat)))} (h : BVs K H vs os) {v : V} {o : Option (List (Option Nat))} (hv : BV K H v o) : BVs K H (vs ++ [v]) (os ++ [o]) := by
  refine ⟨by rw [List.length_append, List.length_append, h.1]; rfl, fun i v' o' a b => ?_⟩
  by_cases q : i < vs.length
  · rw [List.getElem?_append_left q] at a
    rw [List.getElem?_append_left (by rw [← h.1]; exact q)] at b
    exact h.2 i v' o' a b
  · rw [List.getElem?_append_right (by omega)] at a
    rw [List.getElem?_append_right (by rw [← h.1]; omega), ← h.1] at b
    cases j : i - vs.length with
    | zero =>
      rw [j] at a b
      cases a
      cases b
      exact hv
    | succ n =>
      rw [j] at a
      cases a
/-- all but one thing is as it was -/
def But (D : Addr) (H H' : Hp) : Prop := ∀ b o, b ≠ D → H b = some o → H' b = some o
theorem But.trans {D : Addr} {H H' H'' : Hp} (a : But D H H') (b : But D H' H'') : But D H H'' := fun c o n e => b c o n (a c o n e)
theorem But.of {D : Addr} {H H' : Hp} (s : Same H H') : But D H H' := fun b o _ e => s b o e
theorem But.tup {P : Program} {w : World} {K : PySem.W.Frag} {D : Addr} {H H' : Hp} {kvs : List Ent} (g : H D = some (DO P w D kvs)) (s : But D H H') (b : Addr) (xs : List V) (h : SqT K H b xs) : SqT K H' b xs := by
  rcases h with (h | ⟨u, h⟩) | h
  · exact .inl (.inl (s _ _ (fun e => by rw [e, g] at h; cases h) h))
  · exact .inl (.inr ⟨u, s _ _ (fun e => by rw [e, g] at h; cases h) h⟩)
  · exact .inr h
theorem But.lst {P : Program} {w : World} {K : PySem.W.Frag} {D : Addr} {H H' : Hp} {kvs : List Ent} (g : H D = some (DO P w D kvs)) (s : But D H H') {b : Addr} {xs : List V} (h : SqL K H b xs) : SqL K H' b xs := by
  rcases h with (h | ⟨u, h⟩) | h
  · exact .inl (.inl (s _ _ (fun e => by rw [e, g] at h; cases h) h))
  · exact .inl (.inr ⟨u, s _ _ (fun e => by rw [e, g] at h; cases h) h⟩)
  · exact .inr h
end
end DW
/-! k43: the machine of places -/
namespace DW
open PySem PySem.Spec PyProof.Rows L2 TL
open ND (DO KOks NK NKs valN putN setN Ent)
set_option autoImplicit false
theorem fresh_of {H H' : Hp} (s : Same H H') {a : Addr} (h : H' a = none) : H a = none := by
  cases q : H a with
  | none => rfl
  | some o => exact nomatch ((s a o q).symm.trans h)
def oD : Option Nat → PyData
  | none => .none
  | some n => .int (n : Int)
def plD (k : Pl) : PyData := .tuple (k.map oD)
theorem oD_eqv : ∀ a b : Option Nat, PyData.eqv (oD a) (oD b) = decide (a = b)
  | none, none => rfl
  | none, some _ => rfl
  | some _, none => rfl
  | some a, some b => by
    show ((a : Int) == (b : Int)) = _
    rw [Bool.eq_iff_iff, beq_iff_eq, decide_eq_true_iff]
    constructor
    · intro h
      rw [Int.ofNat.inj h]
    · intro h
      rw [Option.some.inj h]
theorem oDs_eqv : ∀ a b : Pl, PyData.eqvAll (a.map oD) (b.map oD) = decide (a = b)
  | [], [] => rfl
  | [], _ :: _ => rfl
  | _ :: _, [] => rfl
  | x :: a, y :: b => by
    rw [List.map_cons, List.map_cons, PyData.eqvAll, oD_eqv, oDs_eqv a b, Bool.eq_iff_iff]
    simp
theorem plD_eqv (a b : Pl) : PyData.eqv (plD a) (plD b) = decide (a = b) := by
  unfold plD
  rw [PyData.eqv, oDs_eqv]
theorem oD_lay : ∀ k : Pl, PyData.canLayAll0 (k.map oD) = true ∧ PyData.depthAll (k.map oD) = 0
  | [] => ⟨rfl, rfl⟩
  | o :: k => by
    obtain ⟨h1, h2⟩ := oD_lay k
    cases o <;> exact ⟨by simp [oD, PyData.canLayAll0, PyData.canLay0, h1], by simp [oD, PyData.depthAll, PyData.depth, h2]⟩
theorem plD_shaped (k : Pl) : SeqAt.shaped (plD k) = true := by
  obtain ⟨h1, h2⟩ := oD_lay k
  unfold SeqAt.shaped plD
  rw [Bool.and_eq_true]
  exact ⟨by simp only [PyData.canLay0, h1], decide_eq_true (by simp only [PyData.depth, h2]; omega)⟩
theorem plDs_lay : ∀ ks : List Pl, PyData.canLayAll0 (ks.map plD) = true ∧ PyData.depthAll (ks.map plD) ≤ 1
  | [] => ⟨rfl, Nat.zero_le _⟩
  | k :: ks => by
    obtain ⟨h1, h2⟩ := plDs_lay ks
    obtain ⟨g1, g2⟩ := oD_lay k
    rw [List.map_cons]
    unfold plD at h1 h2 ⊢
    exact ⟨by simp only [PyData.canLayAll0, PyData.canLay0, g1, h1, Bool.and_self], by simp only [PyData.depthAll, PyData.depth, g2]; omega⟩
theorem plDs_shaped (ks : List Pl) : SeqAt.shaped (.list (ks.map plD)) = true := by
  obtain ⟨h1, h2⟩ := plDs_lay ks
  unfold SeqAt.shaped
  rw [Bool.and_eq_true]
  exact ⟨by simp only [PyData.canLay0, h1], decide_eq_true (by simp only [PyData.depth]; omega)⟩
theorem plDs_any (ks : List Pl) (k : Pl) : ((ks.map plD).any fun z => PyData.eqv z (plD k)) = decide (k ∈ ks) := by
  rw [Bool.eq_iff_iff, List.any_eq_true, decide_eq_true_iff]
  constructor
  · rintro ⟨x, hx, e⟩
    obtain ⟨y, hy, rfl⟩ := List.mem_map.mp hx
    rw [plD_eqv, decide_eq_true_iff] at e
    rw [← e]
    exact hy
  · exact fun h => ⟨plD k, List.mem_map_of_mem h, by rw [plD_eqv]; exact decide_eq_true rfl⟩
theorem oD_dp {K : PySem.W.Frag} {H : Hp} : ∀ k : Pl, DpAll K H (k.map oV) (k.map oD)
  | [] => .nil
  | none :: k => .cons .non (oD_dp k)
  | some n :: k => .cons (.int _) (oD_dp k)
theorem plD_dp {K : PySem.W.Frag} {H : Hp} {a : Addr} {k : Pl} (h : SqT K H a (k.map oV)) : Dp K H (.ref a) (plD k) := .tup h (oD_dp k)
abbrev QA : Type := Addr × Pl
theorem plDs_dp {K : PySem.W.Frag} {H : Hp} : ∀ {q : List QA}, (∀ t ∈ q, SqT K H t.1 (t.2.map oV)) → DpAll K H (q.map fun t => V.ref t.1) ((q.map Prod.snd).map plD)
  | [], _ => .nil
  | t :: q, h => .cons (plD_dp (h t List.mem_cons_self)) (plDs_dp fun y hy => h y (List.mem_cons_of_mem _ hy))
/-- the entry of a state -/
def MRow (K : PySem.W.Frag) (H : Hp) (ps : List (List Fc)) (cs : List Nat) (na : Addr) (p : Ent) (k : Pl) : Prop := ∃ l vs, p.1 = plKey k ∧ p.2.2 = .ref l ∧ SqT K H p.2.1 (k.map oV) ∧ H l = some (.lst vs) ∧ l ≠ na ∧ BVs K H vs (cs.map (stepP ps k))
inductive MRows (K : PySem.W.Frag) (H : Hp) (ps : List (List Fc)) (cs : List Nat) (na : Addr) : List Ent → List Pl → Prop where
  | nil : MRows K H ps cs na [] []
  | cons {p : Ent} {k : Pl} {kvs : List Ent} {ks : List Pl} : MRow K H ps cs na p k → MRows K H ps cs na kvs ks → MRows K H ps cs na (p :: kvs) (k :: ks)
theorem MRows.len {K : PySem.W.Frag} {H : Hp} {ps : List (List Fc)} {cs : List Nat} {na : Addr} : ∀ {kvs : List Ent} {ks : List Pl}, MRows K H ps cs na kvs ks → kvs.length = ks.length
  | _, _, .nil => rfl
  | _, _, .cons _ r => congrArg Nat.succ r.len
theorem MRows.snoc {K : PySem.W.Frag} {H : Hp} {ps : List (List Fc)} {cs : List Nat} {na : Addr} {p : Ent} {k : Pl} (h : MRow K H ps cs na p k) : ∀ {kvs : List Ent} {ks : List Pl}, MRows K H ps cs na kvs ks → MRows K H ps cs na (kvs ++ [p]) (ks ++ [k])
  | _, _, .nil => .cons h .nil
  | _, _, .cons a r => .cons a (r.snoc h)
theorem MRow.mono {K : PySem.W.Frag} {H H' : Hp} {ps : List (List Fc)} {cs : List Nat} {na : Addr} {p : Ent} {k : Pl} (m : ∀ b xs, SqT K H b xs → SqT K H' b xs) (l : ∀ b vs, b ≠ na → H b = some (.lst vs) → H' b = some (.lst vs)) (h : MRow K H ps cs na p k) : MRow K H' ps cs na p k := by
  obtain ⟨b, vs, e1, e2, t, g, n, bv⟩ := h
  exact ⟨b, vs, e1, e2, m _ _ t, l _ _ n g, n, bv.mono m⟩
theorem MRows.mono {K : PySem.W.Frag} {H H' : Hp} {ps : List (List Fc)} {cs : List Nat} {na : Addr} (m : ∀ b xs, SqT K H b xs → SqT K H' b xs) (l : ∀ b vs, b ≠ na → H b = some (.lst vs) → H' b = some (.lst vs)) : ∀ {kvs : List Ent} {ks : List Pl}, MRows K H ps cs na kvs ks → MRows K H' ps cs na kvs ks
  | _, _, .nil => .nil
  | _, _, .cons a r => .cons (a.mono m l) (r.mono m l)
theorem MRows.oks {K : PySem.W.Frag} {H : Hp} {ps : List (List Fc)} {cs : List Nat} {na : Addr} : ∀ {kvs : List Ent} {ks : List Pl}, MRows K H ps cs na kvs ks → KOks K H kvs
  | _, _, .nil => fun p h => nomatch h
  | _, _, .cons a r => fun p h => by
    rcases List.mem_cons.mp h with e | e
    · obtain ⟨b, vs, e1, e2, t, g, n, bv⟩ := a
      rw [e, e1]
      exact ⟨pl_nk t, plKey_depth _⟩
    · exact r.oks p e
theorem MRows.val {K : PySem.W.Frag} {H : Hp} {ps : List (List Fc)} {cs : List Nat} {na : Addr} (k : Pl) : ∀ {kvs : List Ent} {ks : List Pl}, MRows K H ps cs na kvs ks → (k ∉ ks → valN kvs (plKey k) = none) ∧ (k ∈ ks → ∃ l vs, valN kvs (plKey k) = some (.ref l) ∧ H l = some (.lst vs) ∧ l ≠ na ∧ BVs K H vs (cs.map (stepP ps k)))
  | _, _, .nil => ⟨fun _ => rfl, fun h => nomatch h⟩
  | _, _, .cons (p := p) (k := k') (kvs := kvs) (ks := ks) a r => by
    obtain ⟨b, vs, e1, e2, t, g, n, bv⟩ := a
    obtain ⟨r1, r2⟩ := r.val k
    have st : valN (p :: kvs) (plKey k) = if k' = k then some p.2.2 else valN kvs (plKey k) := by
      unfold valN
      rw [List.find?_cons]
      by_cases q : k' = k
      · rw [if_pos q, e1, q, decide_eq_true rfl]
        rfl
      · have : decide (p.1 = plKey k) = false := decide_eq_false fun h => q (plKey_inj (e1.symm.trans h))
        rw [if_neg q, this]
    constructor
    · intro h
      rw [st, if_neg fun e => h (by rw [e]; exact List.mem_cons_self)]
      exact r1 fun z => h (List.mem_cons_of_mem _ z)
    · intro h
      by_cases q : k' = k
      · rw [st, if_pos q, e2, ← q]
        exact ⟨b, vs, rfl, g, n, bv⟩
      · rw [st, if_neg q]
        rcases List.mem_cons.mp h with z | z
        · exact absurd z.symm q
        · exact r2 z
def spMac (P : Program) (w : World) (K : PySem.W.Frag) : Sp := fun vs H Q _ => ∃ (a : Addr) (us : List V) (ps : List (List Fc)) (z : Str), vs = [.ref a, .str z] ∧ SqL K H a us ∧ IsL K H us ps ∧ Alph z ∧ (∀ p ∈ ps, ∀ f ∈ p, FOk z f) ∧ ps.length ≤ 1000 ∧ (∀ q ∈ ps, q.length ≤ 1000) ∧ prodN ps ≤ 1000 ∧
  ∀ H' D na kvs Qs, Same H H' → H' D = some (DO P w D kvs) → MRows K H' ps (tl z) na kvs Qs → Closed ps (tl z) Qs → Qs.Nodup → Qs.length ≤ prodN ps → (ps = [] → Qs = []) → (ps ≠ [] → Qs[0]? = some (ps.map fun _ => some 0)) → Q (.ref D) H'
section
variable {P : Program} {w : World} {K : PySem.W.Frag} {mg : Str → Option Value} {base : Heap}
theorem scMac : FnScope ["_law_products_here","_law_alphabet_here","_law_start_here","_law_queue","_law_rows","_law_at","_law_places","_law_letter","_law_behind"] ["_law_products_here","_law_alphabet_here"] (defScope sLMachine) := ⟨rfl, rfl, rfl, by decide +kernel, rfl, by decide +kernel, by decide +kernel⟩
structure DfPls (K : PySem.W.Frag) (mg : Str → Option Value) where
  s : Df K mg "_law_start" sLStart ["_law_products_here"]
  p : Df K mg "_law_places_behind" sLPlacesBehind ["_law_products_here", "_law_places", "_law_letter"]
  q : Df K mg "_law_place_behind" sLPlaceBehind ["_law_product_here", "_law_place", "_law_letter"]
  ml : mg "len" = none
  mr : mg "range" = none
  mi : mg "int" = none
  mt : mg "tuple" = none
  mz : mg "zip" = none
theorem u9m {k : Nat} {A : Around} (hr : Room k A) : A.units + 9 < cLine := by
  have := hr.un
  omega
theorem u65m {k : Nat} {A : Around} (hr : Room k A) : A.units + 65 < cLine := by
  have := hr.un
  omega
theorem ok_mac (D : Df K mg "_law_machine" sLMachine ["_law_products_here","_law_alphabet_here"]) (C : DfPls K mg) : FnOk P w K mg base CX0 3 D.f D.fd ["_law_products_here","_law_alphabet_here"] (spMac P w K) := by
  have Gs : FnOk P w K mg base CX0 1 C.s.f C.s.fd ["_law_products_here"] (spStart K) := ok_start C.s C.ml C.mt
  have Gp : FnOk P w K mg base CX0 2 C.p.f C.p.fd ["_law_products_here", "_law_places", "_law_letter"] (spPls K) := ok_pls C.p C.q C.ml C.mr C.mi C.mt C.mz
  refine D.F.ok scMac (fun vs H Q E h => ?_) (fun cdv A outer s H vs Q E hr h => ?_)
  · obtain ⟨a, us, ps, z, rfl, _⟩ := h
    rfl
  · obtain ⟨a, us, ps, z, rfl, ha, iL, al, ok, pl, sh, pn, kk⟩ := h
    have hr1 : Room 1 _ := hr.mono (by decide)
    have hr2 : Room 2 _ := hr.mono (by decide)
    have sl := sizeLine_eq
    refine ⟨_, PSs.nox (pss_cons (ps_set (i := 2) scMac.nd rfl (.inl rfl) (pe_call Gs hr1 (by rfl) C.s.g C.s.F.kp C.s.b .nil pass0 (pa_cons (pv 0) pa_nil))) (C8.pss_cut (ps_set (i := 3) scMac.nd rfl (.inl rfl) (pe_ifExp (pt_cmpR op_notN (pv 2) pe_non (nomark _)) (pe_lst (pa_cons (pv 2) pa_nil)) (pe_lst pa_nil))) (pss_cons (ps_par (i := 4) (j := 5) rfl scMac.nd rfl rfl (by decide) rfl rfl (pa_cons ND.pe_dnewN (pa_cons pe_int pa_nil)) (by rfl)) (pss_cons (ps_while PassesOwn.never (pt_cmpR op_lt (pv 5) (pe_callB call_len_seq (by rfl) C.ml PySem.boot_len (pa_cons (pv 3) pa_nil)) (nomark _)) (pss_cons (ps_set (i := 6) scMac.nd rfl (.inr rfl) (pe_ix ix_list (pv 3) (pv 5) (fun _ _ => rfl))) (pss_cons (ND.ps_dputN (u9m hr) (pv 4) (pv 6) (pe_lc (own := [("_law_letter", 7)]) (g := gName 7) rfl scMac.nd (pi_str (pv 1)) (blkOk_by (N := ["_law_products_here", "_law_alphabet_here", "_law_start_here", "_law_queue", "_law_rows", "_law_at", "_law_places", "_law_letter", "_law_behind"]) (sc := defScope sLMachine) (by decide +kernel)) (fun _ _ _ _ _ => pg_name (i := 7) scMac.nd rfl (Or.inl rfl)) (fun _ _ _ _ _ => pts_nil) (fun _ _ _ _ _ => (pe_call Gp hr2 (by rfl) C.p.g C.p.F.kp C.p.b .nil pass0 (pa_cons (pv 0) (pa_cons (pv 6) (pa_cons (pv 7) pa_nil)))))) rfl) (pss_cons (ps_for PassesOwn.never rfl (pi_list (ND.pe_dgetN (u9m hr) (pv 4) (pv 6) (fun _ _ => rfl))) (pg_name (i := 8) scMac.nd rfl (.inl rfl)) (pss_one (ps_if (pw_and (pt_cmpR op_notN (pv 8) pe_non (nomark _)) (pw_and1 (pt_cmpR (op_notInD (u65m hr)) (pv 8) (pv 3) rfl))).pt (pss_one (ps_expr (pe_bm PySem.F.plainAttrs_list PySem.F.slot_list_append PySem.F.type_list_append mt_append (pv 3) (pa_cons (pv 8) pa_nil)))) pss_nil))) (pss_one (ps_set (i := 5) scMac.nd rfl (.inl rfl) (pe_op op_add (pv 5) pe_int))))))) (pss_one (ps_ret (pv 4))))))), ?_⟩
    refine ⟨.ref a, rfl, a, us, ps, z, rfl, ha, iL, al, ok, pl, fun H1 v s1 h1 h2 => ?_⟩
    try dsimp only [gName, List.set]
    have nz : z.cps.size = (tl z).length := (Array.length_toList).symm
    have zl : (tl z).length ≤ 3 := al.2.2.1
    refine ⟨fun σ G => ∃ (qa : Addr) (q : List QA), σ = [some (.ref a), some (.str z), some v, some (.ref qa), none, none, none, none, none] ∧ Same H G ∧ H qa = none ∧ G qa = some (.lst (q.map fun t => V.ref t.1)) ∧ (∀ t ∈ q, SqT K G t.1 (t.2.map oV)) ∧ (ps = [] → q = []) ∧ (ps ≠ [] → q.map Prod.snd = [ps.map fun _ => some 0]), ?_, ?_⟩
    · refine ⟨v, rfl, rfl, _, rfl, ?_⟩
      by_cases pe : ps = []
      · have es : startP ps = none := if_pos pe
        rw [h2 es]
        refine iteF ⟨by show 0 ≤ sizeLine; decide, fun qa hqa => ?_⟩
        exact ⟨qa, [], rfl, s1.trans (same_upd hqa), fresh_of s1 hqa, upd_same, fun t h => (nomatch h), fun _ => rfl, fun h => absurd pe h⟩
      · have es : startP ps = some (ps.map fun _ => some 0) := if_neg pe
        obtain ⟨t0, rfl, ht0⟩ := h1 _ es
        refine iteT ⟨.ref t0, rfl, by show 1 ≤ sizeLine; decide, fun qa hqa => ?_⟩
        refine ⟨qa, [(t0, ps.map fun _ => some 0)], rfl, s1.trans (same_upd hqa), fresh_of s1 hqa, upd_same, fun t h => ?_, fun h => absurd h pe, fun _ => rfl⟩
        rw [List.mem_singleton.mp h]
        exact same_tup (same_upd hqa) _ _ ht0
    clear h1 h2 s1
    rintro σ G0 ⟨qa, q0, rfl, s0, nqa, gq0, rows0, e0, e1⟩
    refine fun D0 hD0 => ⟨_, _, rfl, ?_⟩
    try dsimp only [List.set]
    have sD := same_upd (o := DO P w D0 []) hD0
    have nD0 : H D0 = none := fresh_of s0 hD0
    have nqD : qa ≠ D0 := ne_of_none gq0 hD0
    have vk0 : ∀ k ∈ q0.map Prod.snd, Vk ps k := fun k hk => by
      by_cases pe : ps = []
      · rw [e0 pe] at hk
        cases hk
      · rw [e1 pe] at hk
        rw [List.mem_singleton.mp hk]
        exact start_vk (if_neg pe)
    refine ⟨fun m σ G => ∃ (q : List QA) (i : Nat) (kvs : List Ent) (y6 y8 : Option V), m = prodN ps - i ∧ σ = [some (.ref a), some (.str z), some v, some (.ref qa), some (.ref D0), some (.int (i : Int)), y6, none, y8] ∧ i ≤ q.length ∧ G qa = some (.lst (q.map fun t => V.ref t.1)) ∧ G D0 = some (DO P w D0 kvs) ∧ (∀ t ∈ q, SqT K G t.1 (t.2.map oV)) ∧ MRows K G ps (tl z) qa kvs ((q.map Prod.snd).take i) ∧ (q.map Prod.snd).Nodup ∧ (∀ k ∈ q.map Prod.snd, Vk ps k) ∧ (∀ k ∈ (q.map Prod.snd).take i, ∀ c ∈ tl z, ∀ k', stepP ps k c = some k' → k' ∈ q.map Prod.snd) ∧ (ps = [] → q = []) ∧ (ps ≠ [] → (q.map Prod.snd)[0]? = some (ps.map fun _ => some 0)) ∧ Same H G, ⟨_, q0, 0, [], none, none, rfl, rfl, Nat.zero_le _, sD _ _ gq0, upd_same, fun t ht => same_tup sD _ _ (rows0 t ht), .nil, ?_, vk0, fun k hk => (nomatch hk), e0, fun pe => by rw [e1 pe]; rfl, s0.trans sD⟩, ?_⟩
    · by_cases pe : ps = []
      · rw [e0 pe]
        exact .nil
      · rw [e1 pe]
        exact List.nodup_cons.mpr ⟨fun h => (nomatch h), .nil⟩
    rintro m σ G ⟨q, i, kvs, y6, y8, hm, rfl, hi, gq, gD, rows, mr, nd, vk, cl, c0, c1, sm⟩
    have few : q.length ≤ prodN ps := by
      have := keys_few nd fun k hk => (vk k hk).1
      rw [List.length_map] at this
      exact this
    refine ⟨.int (i : Int), rfl, .ref qa, rfl, qa, _, rfl, .inl (SqL.of gq), _, _, rfl, rfl, _, rfl, ?_⟩
    rw [List.length_map]
    by_cases lt : i < q.length
    case neg =>
      have ei : i = q.length := by omega
      rw [decide_eq_false (by omega)]
      refine iteF ⟨.ref D0, rfl, ?_⟩
      have tk : (q.map Prod.snd).take i = q.map Prod.snd := List.take_of_length_le (by rw [List.length_map]; omega)
      rw [tk] at mr cl
      exact kk G D0 qa kvs (q.map Prod.snd) sm gD mr ⟨vk, cl⟩ nd (by rw [List.length_map]; exact few) (fun pe => by rw [c0 pe]; rfl) c1
    rw [decide_eq_true (by omega)]
    have eq_ : q[i]? = some q[i] := List.getElem?_eq_getElem lt
    have mq : q[i] ∈ q := List.getElem_mem lt
    have tk : (q.map Prod.snd).take (i + 1) = (q.map Prod.snd).take i ++ [q[i].2] := by rw [List.take_add_one, List.getElem?_map, eq_]; rfl
    have nk : q[i].2 ∉ (q.map Prod.snd).take i := fun h => by
      have h1 : ((q.map Prod.snd).take (i + 1)).Nodup := List.Pairwise.sublist (List.take_sublist _ _) nd
      rw [tk] at h1
      exact (List.nodup_append.mp h1).2.2 _ h _ (List.mem_singleton.mpr rfl) rfl
    have vkq : Vk ps q[i].2 := vk _ (List.mem_map_of_mem mq)
    refine iteT ⟨fun σ G => ∃ (q : List QA) (i' : Nat) (kvs : List Ent) (y6 y8 : Option V), i < i' ∧ i' ≤ prodN ps ∧ σ = [some (.ref a), some (.str z), some v, some (.ref qa), some (.ref D0), some (.int (i' : Int)), y6, none, y8] ∧ i' ≤ q.length ∧ G qa = some (.lst (q.map fun t => V.ref t.1)) ∧ G D0 = some (DO P w D0 kvs) ∧ (∀ t ∈ q, SqT K G t.1 (t.2.map oV)) ∧ MRows K G ps (tl z) qa kvs ((q.map Prod.snd).take i') ∧ (q.map Prod.snd).Nodup ∧ (∀ k ∈ q.map Prod.snd, Vk ps k) ∧ (∀ k ∈ (q.map Prod.snd).take i', ∀ c ∈ tl z, ∀ k', stepP ps k c = some k' → k' ∈ q.map Prod.snd) ∧ (ps = [] → q = []) ∧ (ps ≠ [] → (q.map Prod.snd)[0]? = some (ps.map fun _ => some 0)) ∧ Same H G, ?_, ?_⟩
    · rintro σ' G' ⟨q', i', kvs', y6', y8', lt1, lt2, e1, e2, e3, e4, e5, e6, e7, e8, e9, e10, e11, e12⟩
      exact ⟨_, by omega, q', i', kvs', y6', y8', rfl, e1, e2, e3, e4, e5, e6, e7, e8, e9, e10, e11, e12⟩
    refine ⟨.ref qa, rfl, .int (i : Int), rfl, qa, _, _, .ref q[i].1, rfl, rfl, SqL.of gq, atI_nat (by rw [List.getElem?_map, eq_]; rfl), ?_⟩
    try dsimp only [gName, List.set]
    refine ⟨.str z, rfl, z, rfl, fun L hL => ?_⟩
    have nLq : L ≠ qa := fun e => by rw [e, gq] at hL; cases hL
    have nLD : L ≠ D0 := fun e => by rw [e, gD] at hL; cases hL
    have nLr : ∀ t ∈ q, ∀ o, G t.1 = some o → t.1 ≠ L := fun t _ o e => ne_of_none e hL
    refine lc_it (walk_str (z := z)) (fun j F => ∃ vs, F L = some (.lst vs) ∧ BVs K F vs (((tl z).take j).map (stepP ps q[i].2)) ∧ Same G F) ⟨[], upd_same, ⟨rfl, fun i v o h => (by cases h)⟩, same_upd hL⟩ (fun _ _ _ _ => trivial) ?_ ?_
    · rintro j x F1 F2 hj ⟨vs, gL, bv, s2⟩ ⟨rfl, c, hc, rfl⟩
      have hc' : (tl z)[j]? = some c := by rw [Array.getElem?_toList]; exact hc
      have tkz : (tl z).take (j + 1) = (tl z).take j ++ [c] := by rw [List.take_add_one, hc']; rfl
      refine ⟨rfl, yes ⟨.ref a, rfl, .ref q[i].1, rfl, .str ⟨#[c]⟩, rfl, a, q[i].1, us, ps, q[i].2, c, rfl, same_lst (sm.trans s2) ha, iL.mono (same_tup (sm.trans s2)), same_tup s2 _ _ (rows _ mq), vkq.1, pl, sh, fun F3 v s3 h1 h2 => ?_⟩⟩
      have gL3 := s3 _ _ gL
      have vl := bv.1
      rw [List.length_map, List.length_take] at vl
      have bvv : BV K F3 v (stepP ps q[i].2 c) := by
        cases e : stepP ps q[i].2 c with
        | none => exact h2 e
        | some k' =>
          obtain ⟨t', e, g⟩ := h1 k' e
          exact ⟨t', e, g⟩
      refine ⟨vs, gL3, by rw [sl]; omega, vs ++ [v], upd_same, ?_, fun b o h => (upd_ne (ne_of_none h hL)).trans ((s2.trans s3) b o h)⟩
      rw [tkz, List.map_append]
      exact (BVs.mono (upd_tup gL3) ((bv.mono (same_tup s3)).snoc bvv))
    rintro F ⟨vs, gL, bv, s2⟩
    rw [nz, List.take_length] at bv
    have gq1 := s2 _ _ gq
    have gD1 := s2 _ _ gD
    have rows1 : ∀ t ∈ q, SqT K F t.1 (t.2.map oV) := fun t ht => same_tup s2 _ _ (rows t ht)
    have mr1 := mr.mono (same_tup s2) fun b vs _ e => s2 _ _ e
    have kl : kvs.length = i := by
      rw [mr.len, List.length_take, List.length_map]
      omega
    refine ⟨.ref D0, rfl, .ref q[i].1, rfl, D0, q[i].1, kvs, plKey q[i].2, rfl, rfl, gD1, mr1.oks, pl_nk (rows1 _ mq), plKey_depth _, by rw [kl]; omega, ?_⟩
    have nF : ∀ (b : Addr) (vs : List V), F b = some (.lst vs) → b ≠ D0 := fun b vs e z => by rw [z, gD1] at e; cases e
    have ep : putN kvs (plKey q[i].2) q[i].1 (V.ref L) = kvs ++ [(plKey q[i].2, q[i].1, V.ref L)] := by
      unfold putN
      rw [(mr1.val _).1 nk]
      rfl
    show L2.Ends.nx _ _ (upd F D0 (DO P w D0 (putN kvs (plKey q[i].2) q[i].1 (V.ref L))))
    rw [ep]
    have sb : But D0 F (upd F D0 (DO P w D0 (kvs ++ [(plKey q[i].2, q[i].1, V.ref L)]))) := fun b o ne e => (upd_ne ne).trans e
    have gD2 : (upd F D0 (DO P w D0 (kvs ++ [(plKey q[i].2, q[i].1, V.ref L)]))) D0 = some (DO P w D0 (kvs ++ [(plKey q[i].2, q[i].1, V.ref L)])) := upd_same
    have kl2 : (kvs ++ [(plKey q[i].2, q[i].1, V.ref L)]).length = i + 1 := by rw [List.length_append, kl]; rfl
    have rowm : MRow K F ps (tl z) qa (plKey q[i].2, q[i].1, V.ref L) q[i].2 := ⟨L, vs, rfl, rfl, rows1 _ mq, gL, nLq, bv⟩
    have mr2 := (MRows.snoc rowm mr1).mono (But.tup gD1 sb) fun b vs _ e => sb b _ (nF b vs e) e
    rw [← tk] at mr2
    have gq2 := sb _ _ nqD gq1
    have rows2 : ∀ t ∈ q, SqT K _ t.1 (t.2.map oV) := fun t ht => But.tup gD1 sb _ _ (rows1 t ht)
    have sm2 : Same H (upd F D0 (DO P w D0 (kvs ++ [(plKey q[i].2, q[i].1, V.ref L)]))) := fun b o e => sb b o (fun z => by rw [z, nD0] at e; cases e) (s2 _ _ (sm _ _ e))
    generalize kvs ++ [(plKey q[i].2, q[i].1, V.ref L)] = kvs2 at gD2 kl2 mr2 gq2 rows2 sm2 ⊢
    generalize upd F D0 (DO P w D0 kvs2) = G1 at gD2 mr2 gq2 rows2 sm2 ⊢
    clear sb ep rowm mr1 rows1 gD1 gq1 nF bv gL s2 hL nLr nLD nLq gD mr rows gq sm
    obtain ⟨l, ws, ev, gl, nl, bw⟩ := (mr2.val q[i].2).2 (by rw [tk]; exact List.mem_append_right _ (List.mem_singleton.mpr rfl))
    have nlD : l ≠ D0 := fun e => by rw [e, gD2] at gl; cases gl
    refine ⟨.ref D0, rfl, .ref q[i].1, rfl, D0, q[i].1, kvs2, plKey q[i].2, .ref l, rfl, rfl, ⟨.inl gD2, mr2.oks, pl_nk (rows2 _ mq), plKey_depth _⟩, ev, l, rfl, ⟨_, SqL.of gl⟩, for_it (walk_list (xs := ws)) (fun j σ G' => ∃ (q' x : List QA) (y8 : Option V), σ = [some (.ref a), some (.str z), some v, some (.ref qa), some (.ref D0), some (.int (i : Int)), some (.ref q[i].1), none, y8] ∧ q' = q ++ x ∧ G' qa = some (.lst (q'.map fun t => V.ref t.1)) ∧ (∀ t ∈ q', SqT K G' t.1 (t.2.map oV)) ∧ (q'.map Prod.snd).Nodup ∧ (∀ k ∈ q'.map Prod.snd, Vk ps k) ∧ (∀ k', some k' ∈ ((tl z).map (stepP ps q[i].2)).take j → k' ∈ q'.map Prod.snd) ∧ But qa G1 G') ⟨q, [], y8, rfl, (List.append_nil q).symm, gq2, rows2, nd, vk, fun k' h => (nomatch h), fun _ _ _ e => e⟩ (fun _ _ _ _ ⟨_, _, _, _, _, _, _, _, _, _, bt⟩ => SqL.of (bt _ _ nl gl)) ?_ ?_⟩
    · rintro j v' σ N N' hj ⟨q', x, y8', rfl, eq', gq', rows', nd', vk', seen, bt⟩ ⟨rfl, hv⟩
      have hj2 : j < ((tl z).map (stepP ps q[i].2)).length := by rw [← bw.1]; exact hj
      have ho : ((tl z).map (stepP ps q[i].2))[j]? = some ((tl z).map (stepP ps q[i].2))[j] := List.getElem?_eq_getElem hj2
      have bvj := bw.2 j v' _ hv ho
      have vo : ∀ k', ((tl z).map (stepP ps q[i].2))[j] = some k' → Vk ps k' := fun k' e => by
        rw [List.getElem_map] at e
        exact step_vk vkq e
      have tkj : ((tl z).map (stepP ps q[i].2)).take (j + 1) = ((tl z).map (stepP ps q[i].2)).take j ++ [((tl z).map (stepP ps q[i].2))[j]] := by rw [List.take_add_one, ho]; rfl
      generalize ((tl z).map (stepP ps q[i].2))[j] = o at bvj vo tkj ho
      rw [tkj]
      cases o with
      | none =>
        have ev' : v' = .non := bvj
        subst ev'
        refine ⟨.non, rfl, rfl, _, rfl, iteF (iteF ⟨q', x, _, rfl, eq', gq', rows', nd', vk', fun k' h => ?_, bt⟩)⟩
        rcases List.mem_append.mp h with h | h
        · exact seen k' h
        · exact nomatch (List.mem_singleton.mp h)
      | some k' =>
        obtain ⟨t', rfl, ht'⟩ := bvj
        have ht' : SqT K N' t' (k'.map oV) := by
          rcases ht' with (h | ⟨u, h⟩) | h
          · exact .inl (.inl (bt _ _ (fun e => by rw [e, gq2] at h; cases h) h))
          · exact .inl (.inr ⟨u, bt _ _ (fun e => by rw [e, gq2] at h; cases h) h⟩)
          · exact .inr h
        refine ⟨.ref t', rfl, rfl, _, rfl, iteT ⟨.ref t', rfl, .ref qa, rfl, plD k', (q'.map Prod.snd).map plD, plD_dp ht', .lst (SqL.of gq') (plDs_dp rows'), plD_shaped _, plDs_shaped _, ?_⟩⟩
        rw [plDs_any]
        refine ⟨_, rfl, ?_⟩
        by_cases mem : k' ∈ q'.map Prod.snd
        · rw [decide_eq_true mem]
          refine iteF ⟨q', x, _, rfl, eq', gq', rows', nd', vk', fun k2 h => ?_, bt⟩
          rcases List.mem_append.mp h with h | h
          · exact seen k2 h
          · rw [Option.some.inj (List.mem_singleton.mp h)]
            exact mem
        · rw [decide_eq_false mem]
          have few' : q'.length ≤ prodN ps := by
            have := keys_few nd' fun k hk => (vk' k hk).1
            rw [List.length_map] at this
            exact this
          refine iteT ⟨.ref qa, rfl, .inl ⟨rfl, _, SqL.of gq'⟩, .ref t', rfl, qa, _, .ref t', rfl, rfl, gq', by rw [List.length_map]; omega, ?_⟩
          have em : (q'.map fun t => V.ref t.1) ++ [V.ref t'] = (q' ++ [(t', k')]).map fun t => V.ref t.1 := by rw [List.map_append]; rfl
          have es : (q' ++ [(t', k')]).map Prod.snd = q'.map Prod.snd ++ [k'] := by rw [List.map_append]; rfl
          refine ⟨q' ++ [(t', k')], x ++ [(t', k')], _, rfl, by rw [eq', List.append_assoc], by rw [← em]; exact upd_same, fun t ht => ?_, ?_, fun k hk => ?_, fun k2 h => ?_, fun b o ne e => (upd_ne ne).trans (bt b o ne e)⟩
          · rcases List.mem_append.mp ht with h | h
            · exact upd_tup gq' _ _ (rows' t h)
            · rw [List.mem_singleton.mp h]
              exact upd_tup gq' _ _ ht'
          · rw [es]
            refine List.nodup_append.mpr ⟨nd', List.nodup_cons.mpr ⟨fun h => (nomatch h), .nil⟩, fun a ha b hb e => mem ?_⟩
            rw [List.mem_singleton.mp hb] at e
            rw [← e]
            exact ha
          · rw [es] at hk
            rcases List.mem_append.mp hk with h | h
            · exact vk' k h
            · rw [List.mem_singleton.mp h]
              exact vo k' rfl
          · rw [es]
            rcases List.mem_append.mp h with h | h
            · exact List.mem_append_left _ (seen k2 h)
            · rw [Option.some.inj (List.mem_singleton.mp h)]
              exact List.mem_append_right _ (List.mem_singleton.mpr rfl)
    rintro σ N ⟨q', x, y8', rfl, eq', gq', rows', nd', vk', seen, bt⟩
    have tk' : (q'.map Prod.snd).take (i + 1) = (q.map Prod.snd).take (i + 1) := by
      rw [eq', List.map_append]
      exact List.take_append_of_le_length (by rw [List.length_map]; omega)
    have btup : ∀ b xs, SqT K G1 b xs → SqT K N b xs := fun b xs h => by
      rcases h with (h | ⟨u, h⟩) | h
      · exact .inl (.inl (bt _ _ (fun e => by rw [e, gq2] at h; cases h) h))
      · exact .inl (.inr ⟨u, bt _ _ (fun e => by rw [e, gq2] at h; cases h) h⟩)
      · exact .inr h
    have ql : q'.length = q.length + x.length := by rw [eq', List.length_append]
    rw [List.take_of_length_le (by rw [List.length_map, bw.1, List.length_map]; exact Nat.le_refl _)] at seen
    refine ⟨.int (i : Int), rfl, _, _, rfl, rfl, q', i + 1, kvs2, _, _, Nat.lt_succ_self _, by omega, rfl, by omega, gq', bt _ _ nqD.symm gD2, rows', ?_, nd', vk', ?_, ?_, ?_, fun b o e => bt b o (fun z => by rw [z, nqa] at e; cases e) (sm2 _ _ e)⟩
    · rw [tk']
      exact mr2.mono btup fun b vs ne e => bt b _ ne e
    · rw [tk', tk]
      intro k hk c hc k' e
      rcases List.mem_append.mp hk with h | h
      · have := cl k h c hc k' e
        rw [eq', List.map_append]
        exact List.mem_append_left _ this
      · rw [List.mem_singleton.mp h] at e
        exact seen k' (by rw [← e]; exact List.mem_map_of_mem hc)
    · intro pe
      have hq := c0 pe
      rw [hq] at lt
      exact absurd lt (Nat.not_lt_zero _)
    · intro pe
      have := c1 pe
      rw [eq', List.map_append]
      have h0 := (List.getElem?_eq_some_iff.mp this).1
      rw [List.getElem?_append_left h0]
      exact this
end
end DW
/-! k43: the texts of keys -/
namespace DW
open PySem PySem.Spec PyProof.Rows L2 TL
set_option autoImplicit false
def tokO (o : Option Nat) : List Nat := tl (PyData.shown (oD o))
def valD (w : List Nat) : Nat := w.foldl (fun m d => 10 * m + (d - 48)) 0
theorem num_tok : ∀ n < 300, valD (tl (PyData.shown (.int ((n : Nat) : Int)))) = n ∧ (44 ∈ tl (PyData.shown (.int ((n : Nat) : Int)))) = False ∧ (tl (PyData.shown (.int ((n : Nat) : Int)))).head? ≠ some 78 := by
  have h : ∀ n < 300, valD (tl (PyData.shown (.int ((n : Nat) : Int)))) = n ∧ ((tl (PyData.shown (.int ((n : Nat) : Int)))).contains 44 = false) ∧ (tl (PyData.shown (.int ((n : Nat) : Int)))).head? ≠ some 78 := by decide +kernel
  intro n hn
  obtain ⟨h1, h2, h3⟩ := h n hn
  refine ⟨h1, eq_false fun m => ?_, h3⟩
  rw [List.contains_iff_mem.mpr m] at h2
  cases h2
theorem non_tok : tokO none = [78, 111, 110, 101] := by decide +kernel
def LowO (o : Option Nat) : Prop := ∀ n, o = some n → n < 300
theorem tok_inj {a b : Option Nat} (la : LowO a) (lb : LowO b) (h : tokO a = tokO b) : a = b := by
  cases a with
  | none =>
    cases b with
    | none => rfl
    | some n =>
      refine absurd ?_ (num_tok n (lb n rfl)).2.2
      have : tl (PyData.shown (.int ((n : Nat) : Int))) = tokO none := h.symm
      rw [this, non_tok]
      rfl
  | some n =>
    cases b with
    | none =>
      refine absurd ?_ (num_tok n (la n rfl)).2.2
      have : tl (PyData.shown (.int ((n : Nat) : Int))) = tokO none := h
      rw [this, non_tok]
      rfl
    | some m =>
      have h1 := (num_tok n (la n rfl)).1
      have h2 := (num_tok m (lb m rfl)).1
      have : tl (PyData.shown (.int ((n : Nat) : Int))) = tl (PyData.shown (.int ((m : Nat) : Int))) := h
      rw [this, h2] at h1
      rw [h1]
theorem tok_comma {a : Option Nat} (la : LowO a) : 44 ∉ tokO a := by
  cases a with
  | none => rw [non_tok]; decide
  | some n =>
    intro h
    have := (num_tok n (la n rfl)).2.1
    rw [← this]
    exact h
theorem split_at {c : Nat} : ∀ {w w' r r' : List Nat}, c ∉ w → c ∉ w' → w ++ c :: r = w' ++ c :: r' → w = w' ∧ r = r'
  | [], [], r, r', _, _, h => ⟨rfl, (List.cons.inj h).2⟩
  | [], d :: w', r, r', _, h2, h => absurd (by rw [(List.cons.inj h).1]; exact List.mem_cons_self) h2
  | d :: w, [], r, r', h1, _, h => absurd (by rw [← (List.cons.inj h).1]; exact List.mem_cons_self) h1
  | d :: w, e :: w', r, r', h1, h2, h => by
    obtain ⟨e1, e2⟩ := List.cons.inj h
    obtain ⟨q1, q2⟩ := split_at (fun z => h1 (List.mem_cons_of_mem _ z)) (fun z => h2 (List.mem_cons_of_mem _ z)) e2
    exact ⟨by rw [e1, q1], q2⟩
theorem toks_inj : ∀ (as bs : List (Option Nat)) (w w' : List Nat), as.length = bs.length → (∀ a ∈ as, LowO a) → (∀ b ∈ bs, LowO b) → 44 ∉ w → 44 ∉ w' → w ++ (as.map fun o => 44 :: 32 :: tokO o).flatten ++ [93] = w' ++ (bs.map fun o => 44 :: 32 :: tokO o).flatten ++ [93] → w = w' ∧ as = bs
  | [], [], w, w', _, _, _, _, _, h => ⟨by simpa using h, rfl⟩
  | a :: as, b :: bs, w, w', l, la, lb, hw, hw', h => by
    rw [List.map_cons, List.map_cons, List.flatten_cons, List.flatten_cons] at h
    have h' : w ++ 44 :: (32 :: tokO a ++ (as.map fun o => 44 :: 32 :: tokO o).flatten ++ [93]) = w' ++ 44 :: (32 :: tokO b ++ (bs.map fun o => 44 :: 32 :: tokO o).flatten ++ [93]) := by
      simpa [List.append_assoc] using h
    obtain ⟨e1, e2⟩ := split_at hw hw' h'
    have n1 : ∀ {o : Option Nat}, LowO o → 44 ∉ 32 :: tokO o := fun lo z => by
      rcases List.mem_cons.mp z with z | z
      · cases z
      · exact tok_comma lo z
    obtain ⟨e3, e4⟩ := toks_inj as bs _ _ (Nat.succ.inj l) (fun x hx => la x (List.mem_cons_of_mem _ hx)) (fun x hx => lb x (List.mem_cons_of_mem _ hx)) (n1 (la a List.mem_cons_self)) (n1 (lb b List.mem_cons_self)) e2
    exact ⟨e1, by rw [tok_inj (la a List.mem_cons_self) (lb b List.mem_cons_self) (List.cons.inj e3).2, e4]⟩
theorem textFrom_tl : ∀ (ts : List Str) (k : Nat) (acc : Str), 0 < k → tl (textFrom k acc ts) = tl acc ++ (ts.map fun t => 44 :: 32 :: tl t).flatten
  | [], k, acc, _ => (List.append_nil _).symm
  | t :: r, k, acc, hk => by
    show tl (textFrom (k + 1) (acc ++ (if k > 0 then ", " else "" : String) ++ t) r) = _
    rw [textFrom_tl r (k + 1) _ (Nat.succ_pos _), if_pos hk, tl_app, tl_app, List.map_cons, List.flatten_cons]
    have e : tl ((", " : String) : Str) = [44, 32] := by decide +kernel
    rw [e]
    simp [List.append_assoc]
theorem key_text (o : Option Nat) (os : List (Option Nat)) : tl (PyData.shown (.list ((o :: os).map oD))) = 91 :: (tokO o ++ (os.map fun o => 44 :: 32 :: tokO o).flatten ++ [93]) := by
  have es : ∀ l : List (Option Nat), PyData.shownAll (l.map oD) = l.map fun o => PyData.shown (oD o) := fun l => by
    induction l with
    | nil => rfl
    | cons a l ih => rw [List.map_cons, PyData.shownAll, ih]; rfl
  rw [PyData.shown, es]
  show tl (textFrom 0 "[" ((o :: os).map fun o => PyData.shown (oD o)) ++ "]") = _
  rw [tl_app, List.map_cons]
  show tl (textFrom 1 ("[" ++ (if 0 > 0 then ", " else "" : String) ++ PyData.shown (oD o)) (os.map fun o => PyData.shown (oD o))) ++ _ = _
  rw [textFrom_tl _ 1 _ (by decide), tl_app, tl_app, List.map_map]
  have e1 : tl (("[" : String) : Str) = [91] := by decide +kernel
  have e2 : tl (("" : String) : Str) = [] := by decide +kernel
  have e3 : tl (("]" : String) : Str) = [93] := by decide +kernel
  have e4 : (if 0 > 0 then ", " else "" : String) = "" := rfl
  rw [e4, e1, e2, e3]
  simp [List.append_assoc, tokO, Function.comp_def]
theorem key_inj {a b : List (Option Nat)} (l : a.length = b.length) (ne : a ≠ []) (la : ∀ o ∈ a, LowO o) (lb : ∀ o ∈ b, LowO o) (h : PyData.shown (.list (a.map oD)) = PyData.shown (.list (b.map oD))) : a = b := by
  match a, b, l, ne, la, lb, h with
  | x :: a, y :: b, l, _, la, lb, h =>
    have h := congrArg tl h
    rw [key_text, key_text] at h
    obtain ⟨e1, e2⟩ := toks_inj a b _ _ (Nat.succ.inj l) (fun o ho => la o (List.mem_cons_of_mem _ ho)) (fun o ho => lb o (List.mem_cons_of_mem _ ho)) (tok_comma (la x List.mem_cons_self)) (tok_comma (lb y List.mem_cons_self)) (List.cons.inj h).2
    rw [tok_inj (la x List.mem_cons_self) (lb y List.mem_cons_self) e1, e2]
theorem tok_short {o : Option Nat} (l : LowO o) : (PyData.shown (oD o)).length ≤ 2000 := by
  cases o with
  | none => decide +kernel
  | some n =>
    have h : ∀ n < 300, (PyData.shown (.int ((n : Nat) : Int))).length ≤ 2000 := by decide +kernel
    exact h n (l n rfl)
theorem keyD_ok : ∀ os : List (Option Nat), (∀ o ∈ os, LowO o) → PyData.showableAll (os.map oD) = true ∧ PyData.hasDictAll (os.map oD) = false ∧ PyData.leavesShortAll 2000 (os.map oD) = true ∧ PyData.bulkAll (os.map oD) ≤ os.length
  | [], _ => ⟨rfl, rfl, rfl, Nat.le_refl _⟩
  | none :: r, h => by
    obtain ⟨h1, h2, h3, h4⟩ := keyD_ok r fun x hx => h x (List.mem_cons_of_mem _ hx)
    rw [List.map_cons]
    exact ⟨by simp [oD, PyData.showableAll, PyData.showable, h1], by simp [oD, PyData.hasDictAll, PyData.hasDict, h2], by simp [oD, PyData.leavesShortAll, PyData.leavesShort, h3], by simp only [oD, PyData.bulkAll, PyData.bulk, List.length_cons]; omega⟩
  | some n :: r, h => by
    obtain ⟨h1, h2, h3, h4⟩ := keyD_ok r fun x hx => h x (List.mem_cons_of_mem _ hx)
    have hn := h (some n) List.mem_cons_self n rfl
    have lg : ((n : Nat) : Int).natAbs.log2 < 1920 := by
      rw [Int.natAbs_natCast]
      exact Nat.lt_of_le_of_lt (Nat.log2_le_self _) (by omega)
    have hl : (Str.ofString (toString ((n : Nat) : Int))).length ≤ 2000 := tok_short (o := some n) fun m e => by rw [← Option.some.inj e]; exact hn
    rw [List.map_cons]
    refine ⟨?_, ?_, ?_, ?_⟩
    · simp only [oD, PyData.showableAll, PyData.showable, h1, decide_eq_true lg, Bool.and_self]
    · simp only [oD, PyData.hasDictAll, PyData.hasDict, h2, Bool.or_self]
    · simp only [oD, PyData.leavesShortAll, PyData.leavesShort, h3, Bool.and_true]
      exact decide_eq_true hl
    · simp only [oD, PyData.bulkAll, PyData.bulk, List.length_cons]
      omega
theorem keyD_show {os : List (Option Nat)} (h : ∀ o ∈ os, LowO o) (l : os.length ≤ 100) : (PyData.list (os.map oD)).showable = true ∧ (PyData.list (os.map oD)).hasDict = false ∧ (PyData.list (os.map oD)).depth ≤ 64 ∧ (PyData.list (os.map oD)).shown.length ≤ sizeLine := by
  obtain ⟨h1, h2, h3, h4⟩ := keyD_ok os h
  obtain ⟨_, g2⟩ := oD_lay os
  refine ⟨by simp only [PyData.showable, h1], by simp only [PyData.hasDict, h2], by simp only [PyData.depth, g2]; omega, ?_⟩
  have := PyData.shown_le_bulk 2000 (by decide) (PyData.list (os.map oD)) (by simp only [PyData.leavesShort, h3])
  have e : (PyData.list (os.map oD)).bulk ≤ os.length + 1 := by
    simp only [PyData.bulk]
    omega
  have m : 2000 * (PyData.list (os.map oD)).bulk ≤ 2000 * 101 := Nat.mul_le_mul_left _ (by omega)
  rw [sizeLine_eq]
  omega
end DW
/-! k43: dicts of states, partitions -/
namespace DW
open PySem PySem.Spec PyProof.Rows L2 TL
open ND (DO KOks NK NKs valN putN setN Ent)
set_option autoImplicit false
/-- a dict of states, val told by the state -/
inductive VRows (K : PySem.W.Frag) (H : Hp) (val : Pl → V) : List Ent → List Pl → Prop where
  | nil : VRows K H val [] []
  | cons {p : Ent} {k : Pl} {kvs : List Ent} {ks : List Pl} : p.1 = plKey k → p.2.2 = val k → SqT K H p.2.1 (k.map oV) → VRows K H val kvs ks → VRows K H val (p :: kvs) (k :: ks)
theorem VRows.len {K : PySem.W.Frag} {H : Hp} {val : Pl → V} : ∀ {kvs : List Ent} {ks : List Pl}, VRows K H val kvs ks → kvs.length = ks.length
  | _, _, .nil => rfl
  | _, _, .cons _ _ _ r => congrArg Nat.succ r.len
theorem VRows.mono {K : PySem.W.Frag} {H H' : Hp} {val : Pl → V} (m : ∀ b xs, SqT K H b xs → SqT K H' b xs) : ∀ {kvs : List Ent} {ks : List Pl}, VRows K H val kvs ks → VRows K H' val kvs ks
  | _, _, .nil => .nil
  | _, _, .cons a b c r => .cons a b (m _ _ c) (r.mono m)
theorem VRows.snoc {K : PySem.W.Frag} {H : Hp} {val : Pl → V} {p : Ent} {k : Pl} (e1 : p.1 = plKey k) (e2 : p.2.2 = val k) (t : SqT K H p.2.1 (k.map oV)) : ∀ {kvs : List Ent} {ks : List Pl}, VRows K H val kvs ks → VRows K H val (kvs ++ [p]) (ks ++ [k])
  | _, _, .nil => .cons e1 e2 t .nil
  | _, _, .cons a b c r => .cons a b c (r.snoc e1 e2 t)
theorem VRows.oks {K : PySem.W.Frag} {H : Hp} {val : Pl → V} : ∀ {kvs : List Ent} {ks : List Pl}, VRows K H val kvs ks → KOks K H kvs
  | _, _, .nil => fun p h => nomatch h
  | _, _, .cons a b c r => fun p h => by
    rcases List.mem_cons.mp h with e | e
    · rw [e, a]
      exact ⟨pl_nk c, plKey_depth _⟩
    · exact r.oks p e
theorem VRows.keys {K : PySem.W.Frag} {H : Hp} {val : Pl → V} : ∀ {kvs : List Ent} {ks : List Pl}, VRows K H val kvs ks → kvs.map (·.1) = ks.map plKey
  | _, _, .nil => rfl
  | _, _, .cons a b c r => by rw [List.map_cons, List.map_cons, a, r.keys]
theorem VRows.val {K : PySem.W.Frag} {H : Hp} {vl : Pl → V} (k : Pl) : ∀ {kvs : List Ent} {ks : List Pl}, VRows K H vl kvs ks → (k ∉ ks → valN kvs (plKey k) = none) ∧ (k ∈ ks → valN kvs (plKey k) = some (vl k))
  | _, _, .nil => ⟨fun _ => rfl, fun h => nomatch h⟩
  | _, _, .cons (p := p) (k := k') (kvs := kvs) (ks := ks) a b c r => by
    obtain ⟨r1, r2⟩ := r.val k
    have st : valN (p :: kvs) (plKey k) = if k' = k then some p.2.2 else valN kvs (plKey k) := by
      unfold valN
      rw [List.find?_cons]
      by_cases q : k' = k
      · rw [if_pos q, a, q, decide_eq_true rfl]
        rfl
      · have : decide (p.1 = plKey k) = false := decide_eq_false fun h => q (plKey_inj (a.symm.trans h))
        rw [if_neg q, this]
    constructor
    · intro h
      rw [st, if_neg fun e => h (by rw [e]; exact List.mem_cons_self)]
      exact r1 fun z => h (List.mem_cons_of_mem _ z)
    · intro h
      by_cases q : k' = k
      · rw [st, if_pos q, b, q]
      · rw [st, if_neg q]
        rcases List.mem_cons.mp h with z | z
        · exact absurd z.symm q
        · exact r2 z
theorem plKeys_nd {ks : List Pl} (h : ks.Nodup) : (ks.map plKey).Nodup := List.pairwise_map.mpr (h.imp fun ne e => ne (plKey_inj e))
/-- the key of the i-th entry -/
theorem MRows.get {K : PySem.W.Frag} {H : Hp} {ps : List (List Fc)} {cs : List Nat} {na : Addr} : ∀ {kvs : List Ent} {ks : List Pl}, MRows K H ps cs na kvs ks → ∀ (i : Nat) (p : Ent), kvs[i]? = some p → ∃ k, ks[i]? = some k ∧ MRow K H ps cs na p k
  | _, _, .nil => fun i p h => by simp at h
  | _, _, .cons a r => fun i p h => by
    cases i with
    | zero =>
      cases h
      exact ⟨_, rfl, a⟩
    | succ i => exact r.get i p (by simpa using h)
theorem paired_snoc {α β : Type} {R : α → β → Prop} {a : α} {b : β} (h : R a b) : ∀ {l : List α} {m : List β}, Paired R l m → Paired R (l ++ [a]) (m ++ [b])
  | _, _, .nil => .cons h .nil
  | _, _, .cons x r => .cons x (paired_snoc h r)
theorem paired_imp {α β : Type} {R S : α → β → Prop} (h : ∀ a b, R a b → S a b) : ∀ {l : List α} {m : List β}, Paired R l m → Paired S l m
  | _, _, .nil => .nil
  | _, _, .cons x r => .cons (h _ _ x) (paired_imp h r)
theorem paired_len {α β : Type} {R : α → β → Prop} : ∀ {l : List α} {m : List β}, Paired R l m → l.length = m.length
  | _, _, .nil => rfl
  | _, _, .cons _ r => congrArg Nat.succ (paired_len r)
theorem MRows.vrows {K : PySem.W.Frag} {H : Hp} {ps : List (List Fc)} {cs : List Nat} {na : Addr} (val : Pl → V) : ∀ {kvs : List Ent} {ks : List Pl}, MRows K H ps cs na kvs ks → ∃ kv2 : List Ent, VRows K H val kv2 ks ∧ kv2.length = kvs.length ∧ ∀ (i : Nat) (p : Ent) (k : Pl), kvs[i]? = some p → ks[i]? = some k → kv2[i]? = some (plKey k, p.2.1, val k)
  | _, _, .nil => ⟨[], .nil, rfl, fun i p k h => by simp at h⟩
  | _, _, .cons (p := p0) (k := k0) a r => by
    obtain ⟨kv2, v, l, g⟩ := r.vrows val
    obtain ⟨b, vs, e1, e2, t, _⟩ := a
    refine ⟨(plKey k0, p0.2.1, val k0) :: kv2, .cons rfl rfl t v, by rw [List.length_cons, List.length_cons, l], fun i p k hp hk => ?_⟩
    cases i with
    | zero =>
      cases hp
      cases hk
      rfl
    | succ i => exact g i p k (by simpa using hp) (by simpa using hk)
def PrP (F : Hp) (prs : List Addr) (kv : List Ent) : Prop := Paired (fun p e => F p = some (.tup [V.ref e.2.1, e.2.2])) prs kv
theorem pr_step {H F : Hp} {D0 L tp : Addr} {x : HO} {prs : List Addr} {kv : List Ent} {j : Nat} {e : Ent} (gL : F L = some (.lst (prs.map V.ref))) (pr : PrP F prs (kv.take j)) (gf : F D0 = some x) (bt : But D0 H F) (nL : H L = none) (nLD : L ≠ D0) (he : kv[j]? = some e) (l : prs.length < sizeLine) (htp : F tp = none) :
    ∃ acc, (upd F tp (.tup [V.ref e.2.1, e.2.2])) L = some (.lst acc) ∧ acc.length < sizeLine ∧ ∃ prs' : List Addr, (upd (upd F tp (.tup [V.ref e.2.1, e.2.2])) L (.lst (acc ++ [V.ref tp]))) L = some (.lst (prs'.map V.ref)) ∧ PrP (upd (upd F tp (.tup [V.ref e.2.1, e.2.2])) L (.lst (acc ++ [V.ref tp]))) prs' (kv.take (j + 1)) ∧ (upd (upd F tp (.tup [V.ref e.2.1, e.2.2])) L (.lst (acc ++ [V.ref tp]))) D0 = some x ∧ But D0 H (upd (upd F tp (.tup [V.ref e.2.1, e.2.2])) L (.lst (acc ++ [V.ref tp]))) := by
  have st := same_upd (o := .tup [V.ref e.2.1, e.2.2]) htp
  have gL1 := st _ _ gL
  have gtp : (upd F tp (.tup [V.ref e.2.1, e.2.2])) tp = some (.tup [V.ref e.2.1, e.2.2]) := upd_same
  generalize upd F tp (.tup [V.ref e.2.1, e.2.2]) = G at st gL1 gtp ⊢
  have tne : ∀ {b : Addr} {xs : List V}, G b = some (.tup xs) → b ≠ L := fun hb z => by
    rw [z, gL1] at hb
    cases hb
  have tk : kv.take (j + 1) = kv.take j ++ [e] := by rw [List.take_add_one, he]; rfl
  refine ⟨_, gL1, by rw [List.length_map]; exact l, prs ++ [tp], by rw [upd_same, List.map_append]; rfl, ?_, (upd_ne (Ne.symm nLD)).trans (st _ _ gf), fun b o ne h => (upd_ne (ne_of_none h nL)).trans (st _ _ (bt b o ne h))⟩
  rw [tk]
  exact paired_snoc (R := fun (p : Addr) (e : Ent) => (upd G L (.lst (prs.map V.ref ++ [V.ref tp]))) p = some (.tup [V.ref e.2.1, e.2.2])) ((upd_ne (tne gtp)).trans gtp) (paired_imp (R := fun (p : Addr) (e : Ent) => F p = some (.tup [V.ref e.2.1, e.2.2])) (fun p e h => (upd_ne (tne (st _ _ h))).trans (st _ _ h)) pr)
/-- what holds when the states have been merged by f, with n names -/
structure Cls1 (ps : List (List Fc)) (cs : List Nat) (Qs : List Pl) (f : Pl → Nat) (n mny : Nat) : Prop where
  sf : ∀ k ∈ Qs, ∀ l ∈ Qs, SameL ps cs k l → f k = f l
  vals : Qs ≠ [] → Vals_ Qs f n
  lt : ∀ k ∈ Qs, f k < n
  st : n ≤ mny → ∀ k ∈ Qs, ∀ l ∈ Qs, f k = f l → keyP ps cs f k = keyP ps cs f l
  n217 : n ≤ 217
theorem Cls1.start {ps : List (List Fc)} {cs : List Nat} {Qs : List Pl} : Cls1 ps cs Qs (fun _ => 0) 1 0 :=
  ⟨fun _ _ _ _ _ => rfl, fun ne => ⟨[0], List.nodup_cons.mpr ⟨fun h => (nomatch h), .nil⟩, rfl, fun v hv => by
    obtain ⟨k, hk⟩ := List.exists_mem_of_ne_nil _ ne
    exact ⟨k, hk, (List.mem_singleton.mp hv).symm⟩⟩, fun _ _ => Nat.zero_lt_one, fun h => absurd h (by omega), by omega⟩
theorem Cls1.next {ps : List (List Fc)} {cs : List Nat} {Qs : List Pl} {f g : Pl → Nat} {n m mny : Nat} (cl : Closed ps cs Qs) (C : Cls1 ps cs Qs f n mny) (gk : ∀ k ∈ Qs, ∀ l ∈ Qs, g k = g l ↔ keyP ps cs f k = keyP ps cs f l) (gv : Qs ≠ [] → Vals_ Qs g m) (gl : ∀ k ∈ Qs, g k < m) (m217 : m ≤ 217) : Cls1 ps cs Qs g m n := by
  refine ⟨fun k hk l hl h => (gk k hk l hl).mpr (key_same cl C.sf hk hl h), gv, gl, fun mn k hk l hl e => ?_, m217⟩
  have ne : Qs ≠ [] := fun z => by rw [z] at hk; cases hk
  have back := same_part (fun a ha b hb e => (keyP_at ((gk a ha b hb).mp e)).1) (C.vals ne) gl mn
  have kk := keyP_at ((gk k hk l hl).mp e)
  unfold keyP
  rw [e]
  congr 1
  refine List.map_congr_left fun c hc => ?_
  have := kk.2 c hc
  cases q : stepP ps k c with
  | none =>
    rw [q] at this
    cases q' : stepP ps l c with
    | none => rfl
    | some l' => rw [q'] at this; cases this
  | some k' =>
    rw [q] at this
    cases q' : stepP ps l c with
    | none => rw [q'] at this; cases this
    | some l' =>
      rw [q'] at this
      show some (g k') = some (g l')
      rw [back k' (cl.2 k hk c hc k' q) l' (cl.2 l hl c hc l' q') (Option.some.inj this)]
theorem Cls1.done {ps : List (List Fc)} {cs : List Nat} {Qs : List Pl} {f : Pl → Nat} {n mny : Nat} (cl : Closed ps cs Qs) (C : Cls1 ps cs Qs f n mny) (h : n ≤ mny) : ∀ k ∈ Qs, ∀ l ∈ Qs, f k = f l ↔ SameL ps cs k l := fun k hk l hl =>
  ⟨fun e u hu => ⟨stable_same cl (C.st h) u hu k hk l hl e, stable_same cl (C.st h) u hu l hl k hk e.symm⟩, C.sf k hk l hl⟩
def ktx (ps : List (List Fc)) (cs : List Nat) (f : Pl → Nat) (k : Pl) : Str := PyData.shown (.list ((keyP ps cs f k).map oD))
end DW
/-! k43: the states merged -/
namespace DW
open PySem PySem.Spec PyProof.Rows L2 TL
open ND (DO KOks NK NKs valN putN setN Ent)
set_option autoImplicit false
theorem first_idx {u : Str} : ∀ {hs : List Str}, u ∈ hs → ∃ j : Nat, hs[j]? = some u ∧ ∀ (m : Nat) (v : Str), m < j → hs[m]? = some v → v ≠ u
  | [], h => by cases h
  | a :: hs, h => by
    by_cases e : a = u
    · exact ⟨0, by rw [e]; rfl, fun m v hm _ => absurd hm (Nat.not_lt_zero _)⟩
    · rcases List.mem_cons.mp h with q | q
      · exact absurd q.symm e
      · obtain ⟨j, h1, h2⟩ := first_idx q
        refine ⟨j + 1, h1, fun m v hm hv => ?_⟩
        cases m with
        | zero =>
          cases hv
          exact e
        | succ m => exact h2 m v (by omega) hv
theorem idx_at {ys : List Str} (nd : ys.Nodup) {j : Nat} {u : Str} (h : ys[j]? = some u) : ys.idxOf u = j := by
  obtain ⟨hl, e⟩ := List.getElem?_eq_some_iff.mp h
  have l2 := List.idxOf_lt_length_of_mem (List.mem_of_getElem? h)
  have e2 : ys[ys.idxOf u] = u := List.getElem_idxOf l2
  have pw := List.pairwise_iff_getElem.mp (List.nodup_iff_pairwise_ne.mp nd)
  rcases Nat.lt_trichotomy (ys.idxOf u) j with q | q | q
  · exact absurd (e2.trans e.symm) (pw _ _ l2 hl q)
  · exact q
  · exact absurd (e.trans e2.symm) (pw _ _ hl l2 q)
theorem lowKey {ps : List (List Fc)} {cs : List Nat} {Qs : List Pl} {f : Pl → Nat} {n mny : Nat} (cl : Closed ps cs Qs) (C : Cls1 ps cs Qs f n mny) {k : Pl} (mk : k ∈ Qs) : ∀ o ∈ keyP ps cs f k, LowO o := fun o ho m e => by
  have := C.n217
  rw [e] at ho
  rcases List.mem_cons.mp ho with z | z
  · rw [Option.some.inj z]
    have := C.lt k mk
    omega
  · obtain ⟨c, hc, e1⟩ := List.mem_map.mp z
    obtain ⟨k', e2, e3⟩ := Option.map_eq_some_iff.mp e1
    have := C.lt k' (cl.2 k mk c hc k' e2)
    omega
theorem names_step {ps : List (List Fc)} {cs : List Nat} {Qs : List Pl} {f : Pl → Nat} {n mny : Nat} (cl : Closed ps cs Qs) (C : Cls1 ps cs Qs f n mny) {ys : List Str} (nd : ys.Nodup) (mem : ∀ x, x ∈ ys ↔ x ∈ Qs.map (ktx ps cs f)) (l : ys.length ≤ 217) : Cls1 ps cs Qs (fun k => ys.idxOf (ktx ps cs f k)) ys.length n := by
  have my : ∀ k ∈ Qs, ktx ps cs f k ∈ ys := fun k hk => (mem _).mpr (List.mem_map_of_mem hk)
  refine Cls1.next cl C (fun k hk l hl => ⟨fun e => ?_, fun e => ?_⟩) (fun _ => ?_) (fun k hk => List.idxOf_lt_length_of_mem (my k hk)) l
  · have l1 := List.idxOf_lt_length_of_mem (my k hk)
    have l2 := List.idxOf_lt_length_of_mem (my l hl)
    have e1 : ys[ys.idxOf (ktx ps cs f k)] = ktx ps cs f k := List.getElem_idxOf l1
    have e2 : ys[ys.idxOf (ktx ps cs f l)] = ktx ps cs f l := List.getElem_idxOf l2
    have e3 : ktx ps cs f k = ktx ps cs f l := by
      rw [← e1, ← e2]
      simp only [e]
    exact key_inj (by unfold keyP; simp) (by unfold keyP; simp) (lowKey cl C hk) (lowKey cl C hl) e3
  · show ys.idxOf (ktx ps cs f k) = ys.idxOf (ktx ps cs f l)
    unfold ktx
    rw [e]
  · refine ⟨List.range ys.length, List.nodup_range, List.length_range, fun v hv => ?_⟩
    have hv := List.mem_range.mp hv
    obtain ⟨k, hk, e⟩ := List.mem_map.mp ((mem _).mp (List.getElem_mem hv))
    refine ⟨k, hk, ?_⟩
    show ys.idxOf (ktx ps cs f k) = v
    exact idx_at nd (by rw [e]; exact List.getElem?_eq_getElem hv)
def spCla (P : Program) (w : World) (K : PySem.W.Frag) : Sp := fun vs H Q _ => ∃ (D na : Addr) (kvs : List Ent) (ps : List (List Fc)) (cs : List Nat) (Qs : List Pl), vs = [.ref D] ∧ H D = some (DO P w D kvs) ∧ MRows K H ps cs na kvs Qs ∧ Closed ps cs Qs ∧ Qs.Nodup ∧ Qs.length ≤ 216 ∧ cs.length ≤ 3 ∧
  ∀ (H' : Hp) (D2 : Addr) (kv2 : List Ent) (f : Pl → Nat), Same H H' → H D2 = none → H' D2 = some (DO P w D2 kv2) → VRows K H' (fun k => V.int (f k : Int)) kv2 Qs → (∀ k ∈ Qs, ∀ l ∈ Qs, f k = f l ↔ SameL ps cs k l) → (∀ k ∈ Qs, f k < 217) → Q (.ref D2) H'
section
variable {P : Program} {w : World} {K : PySem.W.Frag} {mg : Str → Option Value} {base : Heap}
theorem scCla : FnScope ["_law_rows","_law_places","_law_found","_law_many","_law_names","_law_keys","_law_after","_law_behind"] ["_law_rows"] (defScope sLClasses) := ⟨rfl, rfl, rfl, by decide +kernel, rfl, by decide +kernel, by decide +kernel⟩
theorem u66m {k : Nat} {A : Around} (hr : Room k A) : A.units + 66 < cLine := by
  have := hr.un
  omega
theorem u16m {k : Nat} {A : Around} (hr : Room k A) : A.units + 16 < cLine := by
  have := hr.un
  omega
theorem ok_cla (D : Df K mg "_law_classes" sLClasses ["_law_rows"]) (ml : mg "len" = none) (md : mg "dict" = none) (mr : mg "repr" = none) (mso : mg "sorted" = none) (ms : mg "set" = none) : GA.FnG P w K mg base 2 D.f D.fd ["_law_rows"] (spCla P w K) := by
  refine GA.okG D.F scCla (fun vs H Q E h => ?_) (fun cdv A outer s H vs Q E hr hg h => ?_)
  · obtain ⟨D0, na, kvs, ps, cs, Qs, rfl, _⟩ := h
    rfl
  · obtain ⟨D0, na, kvs, ps, cs, Qs, rfl, gD, mr0, cl, nd, q216, c3, kk⟩ := h
    have sl := sizeLine_eq
    have h300 : (300 : Nat) < scanBound := by decide
    refine ⟨_, PSs.nox (pss_cons (ps_asg (pe_tup (pa_cons (pe_callTy (DPN.call_dictPN rfl (u16m hr)) (by rfl) md (by decide +kernel) (pa_cons (pe_lock (pe_lc (own := [("_law_places", 1)]) (g := gName 1) rfl scCla.nd (ND.pi_keysN (pv 0)) (blkOk_by (N := ["_law_rows", "_law_places", "_law_found", "_law_many", "_law_names", "_law_keys", "_law_after", "_law_behind"]) (sc := defScope sLClasses) (by decide +kernel)) (fun _ _ _ _ _ => pg_name (i := 1) scCla.nd rfl (Or.inl rfl)) (fun _ _ _ _ _ => pts_nil) (fun _ _ _ _ _ => (pe_tup (pa_cons (pv 1) (pa_cons pe_int pa_nil)))))) pa_nil)) (pa_cons pe_int (pa_cons (pe_lst (pa_cons pe_str pa_nil)) pa_nil)))) (pg_tup rfl (pgs_cons (pg_name (i := 2) scCla.nd rfl (.inr rfl)) (pgs_cons (pg_name (i := 3) scCla.nd rfl (.inl rfl)) (pgs_cons (pg_name (i := 4) scCla.nd rfl (.inr rfl)) pgs_nil))))) (pss_cons (ps_while PassesOwn.never (pt_cmpR op_lt (pv 3) (pe_callB call_len_seq (by rfl) ml PySem.boot_len (pa_cons (pv 4) pa_nil)) (nomark _)) (pss_cons (ps_asg (pe_tup (pa_cons (pe_callB call_len_seq (by rfl) ml PySem.boot_len (pa_cons (pv 4) pa_nil)) (pa_cons ND.pe_dnewN pa_nil))) (pg_tup rfl (pgs_cons (pg_name (i := 3) scCla.nd rfl (.inl rfl)) (pgs_cons (pg_name (i := 5) scCla.nd rfl (.inr rfl)) pgs_nil)))) (pss_cons (ps_lock (ps_for PassesOwn.never rfl (ND.pi_keysN (pv 0)) (pg_name (i := 1) scCla.nd rfl (.inl rfl)) (pss_cons (ps_setLc (i := 7) (own := [("_law_after", 6)]) (g := gName 6) rfl scCla.nd rfl rfl (sw_true rfl rfl rfl (by decide +kernel)) (pi_list (ND.pe_dgetN (u9m hr) (pv 0) (pv 1) (fun _ _ => rfl))) (blkOk_by (N := ["_law_rows", "_law_places", "_law_found", "_law_many", "_law_names", "_law_keys", "_law_after", "_law_behind"]) (sc := defScope sLClasses) (by decide +kernel)) (fun _ _ _ _ _ => pg_name (i := 6) scCla.nd rfl (Or.inl rfl)) (fun _ _ _ _ _ => pts_nil) (fun _ _ _ _ _ => (pe_ifExp (pt_cmpR op_isN (pv 6) pe_non (nomark _)) pe_non (DGP.pe_dgetP (P := P) (w := w) (K := K) rfl rfl rfl (u9m hr) (pv 2) (pv 6) (fun _ _ => rfl))))) (pss_one (ND.ps_dputN (u9m hr) (pv 5) (pv 1) (pe_callB (GA.cr_reprD hg (u66m hr)) (by rfl) mr (by decide +kernel) (pa_cons (pe_op op_cat (pe_lst (pa_cons (ND.pe_dgetN (u9m hr) (pv 2) (pv 1) (fun _ _ => rfl)) pa_nil)) (pv 7)) pa_nil)) rfl))))) (pss_cons (ps_set (i := 4) scCla.nd rfl (.inr rfl) (pe_callB (TXB.cr_sortTx rfl (u66m hr)) (by rfl) mso (by decide +kernel) (pa_cons (pe_callTy (TX.cr_setL rfl) (by rfl) ms (by decide +kernel) (pa_cons (pe_lock (pe_lc (own := [("_law_places", 1)]) (g := gName 1) rfl scCla.nd (ND.pi_keysN (pv 0)) (blkOk_by (N := ["_law_rows", "_law_places", "_law_found", "_law_many", "_law_names", "_law_keys", "_law_after", "_law_behind"]) (sc := defScope sLClasses) (by decide +kernel)) (fun _ _ _ _ _ => pg_name (i := 1) scCla.nd rfl (Or.inl rfl)) (fun _ _ _ _ _ => pts_nil) (fun _ _ _ _ _ => (DGP.pe_dgetP (P := P) (w := w) (K := K) rfl rfl rfl (u9m hr) (pv 5) (pv 1) (fun _ _ => rfl))))) pa_nil)) pa_nil))) (pss_one (ps_set (i := 2) scCla.nd rfl (.inr rfl) (pe_callTy (DPN.call_dictPN rfl (u16m hr)) (by rfl) md (by decide +kernel) (pa_cons (pe_lock (pe_lc (own := [("_law_places", 1)]) (g := gName 1) rfl scCla.nd (ND.pi_keysN (pv 0)) (blkOk_by (N := ["_law_rows", "_law_places", "_law_found", "_law_many", "_law_names", "_law_keys", "_law_after", "_law_behind"]) (sc := defScope sLClasses) (by decide +kernel)) (fun _ _ _ _ _ => pg_name (i := 1) scCla.nd rfl (Or.inl rfl)) (fun _ _ _ _ _ => pts_nil) (fun _ _ _ _ _ => (pe_tup (pa_cons (pv 1) (pa_cons (DGP.pe_bmP (K := K) (r := rIndex K) rfl PySem.F.plainAttrs_list PySem.F.slot_list_index PySem.F.type_list_index (by exact mt_index) (pv 4) (pa_cons (DGP.pe_dgetP (P := P) (w := w) (K := K) rfl rfl rfl (u9m hr) (pv 5) (pv 1) (fun _ _ => rfl)) pa_nil)) pa_nil)))))) pa_nil)))))))) (pss_one (ps_ret (pv 2))))), ?_⟩
    have kl := mr0.len
    have Cl := cl
    -- all in one class
    obtain ⟨kv0, vr0, l0, g0⟩ := mr0.vrows fun _ => V.int ((0 : Nat) : Int)
    refine ⟨D0, DO P w D0 kvs, gD, trivial, fun od => ?_⟩
    have mT : ∀ b xs, SqT K H b xs → SqT K (upd H D0 (.frz od (DO P w D0 kvs))) b xs := fun b xs h => upd_do gD b xs h
    refine ⟨.ref D0, rfl, D0, od, kvs, rfl, upd_same, fun L hL => ?_⟩
    have nLD : L ≠ D0 := fun e => by rw [e, upd_same] at hL; cases hL
    have nL : H L = none := by
      rw [upd_ne nLD] at hL
      exact hL
    refine lc_it ND.walk_keysN (fun j F => ∃ prs : List Addr, F L = some (.lst (prs.map V.ref)) ∧ PrP F prs (kv0.take j) ∧ F D0 = some (.frz od (DO P w D0 kvs)) ∧ But D0 H F) ⟨[], upd_same, .nil, (upd_ne (Ne.symm nLD)).trans upd_same, fun b o ne e => (upd_ne (ne_of_none e nL)).trans ((upd_ne ne).trans e)⟩ (fun _ _ _ ⟨_, _, _, g, _⟩ => g) ?_ ?_
    · rintro j x F F' hj ⟨prs, gL, pr, gf, bt⟩ ⟨rfl, p, hp, rfl⟩
      obtain ⟨k, hk, _⟩ := mr0.get j p hp
      have e0 := g0 j p k hp hk
      have pl := paired_len pr
      rw [List.length_take] at pl
      refine ⟨rfl, yes ⟨_, rfl, by show 2 ≤ sizeLine; decide, fun tp htp => ?_⟩⟩
      exact pr_step gL pr gf bt nL nLD e0 (by omega) htp
    rintro F ⟨prs, gL, pr, gf, bt⟩
    rw [← l0, List.take_length] at pr
    refine ⟨gf, ?_⟩
    have sH : Same H (upd F D0 (DO P w D0 kvs)) := fun b o h => by
      by_cases z : b = D0
      · rw [z] at h ⊢
        rw [gD] at h
        rw [← Option.some.inj h]
        exact upd_same
      · exact (upd_ne z).trans (bt b o z h)
    have gL : (upd F D0 (DO P w D0 kvs)) L = some (.lst (prs.map V.ref)) := (upd_ne nLD).trans gL
    have pr : PrP (upd F D0 (DO P w D0 kvs)) prs kv0 := paired_imp (fun p e h => (upd_ne fun z => by rw [z, gf] at h; cases h).trans h) pr
    generalize upd F D0 (DO P w D0 kvs) = H1 at sH gL pr ⊢
    clear gf bt hL nL nLD mT g0 l0
    have vr0 := vr0.mono (same_tup sH)
    refine ⟨L, prs, kv0, rfl, SqL.of gL, paired_imp (fun p e h => SqT.of h) pr, vr0.oks, by rw [vr0.keys]; exact plKeys_nd nd, fun D2 hD2 => ?_⟩
    have nD2 : H D2 = none := fresh_of sH hD2
    refine ⟨by show 1 ≤ sizeLine; decide, fun nm hnm => ⟨by show 3 ≤ sizeLine; decide, fun tp htp => ?_⟩⟩
    refine ⟨tp, _, rfl, SqT.of upd_same, rfl, _, _, rfl, _, _, rfl, _, _, rfl, rfl, ?_⟩
    have t1 := same_upd (o := DO P w D2 kv0) hD2
    have t2 : Same (upd H1 D2 (DO P w D2 kv0)) (upd (upd H1 D2 (DO P w D2 kv0)) nm (.lst [V.str ""])) := same_upd hnm
    have t3 : Same (upd (upd H1 D2 (DO P w D2 kv0)) nm (.lst [V.str ""])) (upd (upd (upd H1 D2 (DO P w D2 kv0)) nm (.lst [V.str ""])) tp (.tup [V.ref D2, V.int 0, V.ref nm])) := same_upd htp
    show L2.Ends.nx _ _ (upd (upd (upd H1 D2 (DO P w D2 kv0)) nm (.lst [V.str ""])) tp (.tup [V.ref D2, V.int 0, V.ref nm]))
    have sF := sH.trans (t1.trans (t2.trans t3))
    have gDf := t3 _ _ (t2 _ _ (upd_same (H := H1) (a := D2) (o := DO P w D2 kv0)))
    have gnm := t3 _ _ (upd_same (H := upd H1 D2 (DO P w D2 kv0)) (a := nm) (o := .lst [V.str ""]))
    have vrf := vr0.mono (same_tup (t1.trans (t2.trans t3)))
    generalize upd (upd (upd H1 D2 (DO P w D2 kv0)) nm (.lst [V.str ""])) tp (.tup [V.ref D2, V.int 0, V.ref nm]) = H4 at sF gDf gnm vrf ⊢
    clear t1 t2 t3 hnm htp hD2 vr0 pr gL sH
    try dsimp only [gName, List.set]
    refine ⟨fun m σ G => ∃ (Df nm : Addr) (kvf : List Ent) (f : Pl → Nat) (names : List Str) (mny : Nat) (y1 y5 y7 : Option V), m = 218 - mny ∧ σ = [some (.ref D0), y1, some (.ref Df), some (.int (mny : Int)), some (.ref nm), y5, none, y7] ∧ G Df = some (DO P w Df kvf) ∧ VRows K G (fun k => V.int (f k : Int)) kvf Qs ∧ G nm = some (.lst (names.map V.str)) ∧ Same H G ∧ Cls1 ps cs Qs f names.length mny ∧ H Df = none, ⟨_, D2, nm, kv0, fun _ => 0, [""], 0, none, none, none, rfl, rfl, gDf, vrf, gnm, sF, Cls1.start, nD2⟩, ?_⟩
    clear sF gDf gnm vrf
    rintro m σ G ⟨Df, nm, kvf, f, names, mny, y1, y5, y7, hm, rfl, gf, vf, gn, sm, C, nHf⟩
    refine ⟨.int (mny : Int), rfl, .ref nm, rfl, nm, _, rfl, .inl (SqL.of gn), _, _, rfl, rfl, _, rfl, ?_⟩
    rw [List.length_map]
    by_cases lt : mny < names.length
    case neg =>
      rw [decide_eq_false (by omega)]
      exact iteF ⟨.ref Df, rfl, kk G Df kvf f sm nHf gf vf (C.done cl (by omega)) fun k hk => by have := C.lt k hk; have := C.n217; omega⟩
    rw [decide_eq_true (by omega)]
    have n217 := C.n217
    refine iteT ⟨fun σ G => ∃ (Df nm : Addr) (kvf : List Ent) (f : Pl → Nat) (nams : List Str) (y1 y5 y7 : Option V), σ = [some (.ref D0), y1, some (.ref Df), some (.int (names.length : Int)), some (.ref nm), y5, none, y7] ∧ G Df = some (DO P w Df kvf) ∧ VRows K G (fun k => V.int (f k : Int)) kvf Qs ∧ G nm = some (.lst (nams.map V.str)) ∧ Same H G ∧ Cls1 ps cs Qs f nams.length names.length ∧ H Df = none, ?_, ?_⟩
    · rintro σ' G' ⟨Df', nm', kvf', f', nams', y1', y5', y7', e1, e2, e3, e4, e5, e6, e7⟩
      exact ⟨_, by omega, Df', nm', kvf', f', nams', names.length, y1', y5', y7', rfl, e1, e2, e3, e4, e5, e6, e7⟩
    refine ⟨.ref nm, rfl, nm, _, rfl, .inl (SqL.of gn), fun Dk hDk => ⟨by show 2 ≤ sizeLine; decide, fun tp htp => ⟨tp, _, rfl, SqT.of upd_same, rfl, _, _, rfl, _, _, rfl, rfl, ?_⟩⟩⟩
    rw [List.length_map]
    have nDf : Df ≠ Dk := ne_of_none gf hDk
    have u1 : Same G (upd G Dk (DO P w Dk [])) := same_upd hDk
    have u2 : Same (upd G Dk (DO P w Dk [])) (upd (upd G Dk (DO P w Dk [])) tp (.tup [V.int (names.length : Int), V.ref Dk])) := same_upd htp
    have nDk : H Dk = none := fresh_of sm hDk
    have nDD : Dk ≠ D0 := fun e => by rw [e, gD] at nDk; cases nDk
    have gk := u2 _ _ (upd_same (H := G) (a := Dk) (o := DO P w Dk []))
    show L2.Ends.nx _ _ (upd (upd G Dk (DO P w Dk [])) tp (.tup [V.int (names.length : Int), V.ref Dk]))
    have sm := sm.trans (u1.trans u2)
    have gf := (u1.trans u2) _ _ gf
    have vf := vf.mono (same_tup (u1.trans u2))
    generalize upd (upd G Dk (DO P w Dk [])) tp (.tup [V.int (names.length : Int), V.ref Dk]) = B at gk sm gf vf ⊢
    clear u1 u2 hDk htp gn
    try dsimp only [gName, List.set]
    have gDB := sm _ _ gD
    have nfD : Df ≠ D0 := fun e => by rw [e, gD] at nHf; cases nHf
    have mrB := mr0.mono (same_tup sm) fun b vs _ e => sm _ _ e
    refine ⟨D0, DO P w D0 kvs, gDB, trivial, fun od => ?_⟩
    have mT : ∀ b xs, SqT K B b xs → SqT K (upd B D0 (.frz od (DO P w D0 kvs))) b xs := fun b xs h => upd_do gDB b xs h
    have mrF := mrB.mono mT fun b vs _ e => (upd_ne fun z => by rw [z, gDB] at e; cases e).trans e
    have vfF := vf.mono mT
    have gfF : (upd B D0 (.frz od (DO P w D0 kvs))) Df = some (DO P w Df kvf) := (upd_ne nfD).trans gf
    have gkF : (upd B D0 (.frz od (DO P w D0 kvs))) Dk = some (DO P w Dk []) := (upd_ne nDD).trans gk
    have gDF : (upd B D0 (.frz od (DO P w D0 kvs))) D0 = some (.frz od (DO P w D0 kvs)) := upd_same
    refine ⟨.ref D0, rfl, D0, od, kvs, rfl, gDF, ?_⟩
    refine for_it ND.walk_keysN (fun j σ G => ∃ (kvk : List Ent) (y1 y7 : Option V), σ = [some (.ref D0), y1, some (.ref Df), some (.int (names.length : Int)), some (.ref nm), some (.ref Dk), none, y7] ∧ G Dk = some (DO P w Dk kvk) ∧ VRows K G (fun k => V.str (ktx ps cs f k)) kvk (Qs.take j) ∧ But Dk (upd B D0 (.frz od (DO P w D0 kvs))) G) ⟨[], _, _, rfl, gkF, .nil, fun _ _ _ e => e⟩ (fun _ _ _ _ ⟨_, _, _, _, _, _, bt⟩ => bt _ _ (Ne.symm nDD) gDF) ?_ ?_
    · rintro j x σ N N' hj ⟨kvk, y1', y7', rfl, gk, vk, bt⟩ ⟨rfl, p, hp, rfl⟩
      obtain ⟨k, hk, _, _, _, _, tpk, _⟩ := mrF.get j p hp
      have mk := List.mem_of_getElem? hk
      obtain ⟨l, vs, ev, gl, _, bv⟩ := (mrF.val k).2 mk
      have nlk : l ≠ Dk := fun e => by rw [e, gkF] at gl; cases gl
      have mG := But.tup (K := K) gkF bt
      have gDN := bt _ _ (Ne.symm nDD) gDF
      have glN := bt _ _ nlk gl
      have gfN := bt _ _ nDf gfF
      refine ⟨.ref D0, rfl, .ref p.2.1, rfl, D0, p.2.1, kvs, plKey k, .ref l, rfl, rfl, ⟨.inr ⟨_, gDN⟩, mrF.oks.mono mG, pl_nk (mG _ _ tpk), plKey_depth _⟩, ev, l, rfl, ⟨_, SqL.of glN⟩, fun Lb hLb => ?_⟩
      refine lc_it (walk_list (xs := vs)) (fun i F => F Lb = some (.lst ((((cs.map (stepP ps k)).take i).map fun o => o.map f).map oV)) ∧ Same N' F) ⟨upd_same, same_upd hLb⟩ (fun _ _ _ ⟨_, s⟩ => SqL.of (s _ _ glN)) ?_ ?_
      · rintro i x F1 F2 hi ⟨gL, s2⟩ ⟨rfl, hx⟩
        have hi2 : i < (cs.map (stepP ps k)).length := by rw [← bv.1]; exact hi
        have ho := List.getElem?_eq_getElem hi2
        have b1 := bv.2 i x _ hx ho
        have ll : ((((cs.map (stepP ps k)).take i).map fun o => o.map f).map oV).length < sizeLine := by
          rw [List.length_map, List.length_map, List.length_take, List.length_map]
          omega
        have vo : ∀ k', (cs.map (stepP ps k))[i] = some k' → k' ∈ Qs := fun k' e => by
          rw [List.getElem_map] at e
          exact cl.2 k mk _ (List.getElem_mem _) k' e
        have tk : (cs.map (stepP ps k)).take (i + 1) = (cs.map (stepP ps k)).take i ++ [(cs.map (stepP ps k))[i]] := by rw [List.take_add_one, ho]; rfl
        generalize (cs.map (stepP ps k))[i] = o at b1 vo tk
        cases o with
        | none =>
          have e : x = .non := b1
          subst e
          exact ⟨rfl, yes ⟨.non, rfl, rfl, _, rfl, iteT ⟨_, gL, ll, by rw [upd_same, tk, List.map_append, List.map_append]; rfl, fun b o h => (upd_ne (ne_of_none h hLb)).trans (s2 b o h)⟩⟩⟩
        | some k' =>
          obtain ⟨t', rfl, ht'⟩ := b1
          exact ⟨rfl, yes ⟨.ref t', rfl, rfl, _, rfl, iteF ⟨.ref Df, rfl, .ref t', rfl, Df, t', kvf, plKey k', .int (f k' : Int), rfl, rfl, ⟨.inl (s2 _ _ gfN), (vfF.oks.mono mG).mono (same_tup s2), pl_nk (same_tup s2 _ _ (mG _ _ ht')), plKey_depth _⟩, (vfF.val k').2 (vo k' rfl), _, gL, ll, by rw [upd_same, tk, List.map_append, List.map_append]; rfl, fun b o h => (upd_ne (ne_of_none h hLb)).trans (s2 b o h)⟩⟩⟩
      rintro F ⟨gL, s2⟩
      rw [bv.1, List.take_length] at gL
      try dsimp only [gName, List.set]
      have mF : ∀ b xs, SqT K _ b xs → SqT K F b xs := fun b xs h => same_tup s2 b xs (mG b xs h)
      have gfN2 := s2 _ _ gfN
      refine ⟨.ref Df, rfl, .ref p.2.1, rfl, Df, p.2.1, kvf, plKey k, .int (f k : Int), rfl, rfl, ⟨.inl gfN2, vfF.oks.mono mF, pl_nk (mF _ _ tpk), plKey_depth _⟩, (vfF.val k).2 mk, by show 1 ≤ sizeLine; decide, fun l1 hl1 => ?_⟩
      have s3 := same_upd (o := .lst [V.int (f k : Int)]) hl1
      refine ⟨.ref Lb, rfl, l1, Lb, _, _, rfl, rfl, upd_same, s3 _ _ gL, by simp only [List.length_map, List.length_cons, List.length_nil]; omega, fun l2 hl2 => ?_⟩
      have s4 := same_upd (o := .lst ([V.int (f k : Int)] ++ (((cs.map (stepP ps k)).map fun o => o.map f).map oV))) hl2
      have ek : [V.int (f k : Int)] ++ (((cs.map (stepP ps k)).map fun o => o.map f).map oV) = (keyP ps cs f k).map oV := by
        unfold keyP
        rw [List.map_map, List.map_map, List.map_cons, List.map_map]
        rfl
      rw [ek] at s4 ⊢
      have lowK : ∀ o ∈ keyP ps cs f k, LowO o := fun o ho n e => by
        rw [e] at ho
        rcases List.mem_cons.mp ho with z | z
        · rw [Option.some.inj z]
          have := C.lt k mk
          omega
        · obtain ⟨c, hc, e1⟩ := List.mem_map.mp z
          obtain ⟨k', e2, e3⟩ := Option.map_eq_some_iff.mp e1
          have := C.lt k' (cl.2 k mk c hc k' e2)
          omega
      obtain ⟨h1, h2, h3, h4⟩ := keyD_show lowK (by unfold keyP; rw [List.length_cons, List.length_map]; omega)
      refine ⟨l2, .list ((keyP ps cs f k).map oD), rfl, .lst (SqL.of upd_same) (oD_dp _), h1, h2, h3, h4, ?_⟩
      have s5 := s2.trans (s3.trans s4)
      have vk5 := vk.mono (same_tup s5)
      have kvl := vk.len
      rw [List.length_take] at kvl
      refine ⟨.ref Dk, rfl, .ref p.2.1, rfl, Dk, p.2.1, kvk, plKey k, rfl, rfl, s5 _ _ gk, vk5.oks, pl_nk (same_tup s5 _ _ (mG _ _ tpk)), plKey_depth _, by omega, ?_⟩
      have tkq : Qs.take (j + 1) = Qs.take j ++ [k] := by rw [List.take_add_one, hk]; rfl
      have nk : k ∉ Qs.take j := fun h => by
        have h1 : (Qs.take (j + 1)).Nodup := List.Pairwise.sublist (List.take_sublist _ _) nd
        rw [tkq] at h1
        exact (List.nodup_append.mp h1).2.2 _ h _ (List.mem_singleton.mpr rfl) rfl
      have ep : putN kvk (plKey k) p.2.1 (V.str (ktx ps cs f k)) = kvk ++ [(plKey k, p.2.1, V.str (ktx ps cs f k))] := by
        unfold putN
        rw [(vk5.val k).1 nk]
        rfl
      have gk5 := s5 _ _ gk
      have tp5 := same_tup s5 _ _ (mG _ _ tpk)
      have bt5 : But Dk (upd B D0 (.frz od (DO P w D0 kvs))) _ := fun b o ne h => s5 _ _ (bt b o ne h)
      refine ⟨putN kvk (plKey k) p.2.1 (V.str (ktx ps cs f k)), _, _, rfl, upd_same, ?_, fun b o ne h => (upd_ne ne).trans (bt5 b o ne h)⟩
      rw [ep, tkq]
      exact (VRows.snoc (p := (plKey k, p.2.1, V.str (ktx ps cs f k))) rfl rfl tp5 vk5).mono fun b xs h => upd_do gk5 b xs h
    rintro σ N ⟨kvk, y1', y7', rfl, gk, vk, bt⟩
    have kl2 : kvs.length = Qs.length := kl
    rw [kl2, List.take_length] at vk
    have gDN := bt _ _ (Ne.symm nDD) gDF
    refine ⟨gDN, ?_⟩
    have sB : ∀ b o, b ≠ Dk → B b = some o → (upd N D0 (DO P w D0 kvs)) b = some o := fun b o ne h => by
      by_cases z : b = D0
      · rw [z] at h ⊢
        rw [gDB] at h
        rw [← Option.some.inj h]
        exact upd_same
      · exact (upd_ne z).trans (bt b o ne ((upd_ne z).trans h))
    have gk : (upd N D0 (DO P w D0 kvs)) Dk = some (DO P w Dk kvk) := (upd_ne nDD).trans gk
    have vk : VRows K (upd N D0 (DO P w D0 kvs)) (fun k => V.str (ktx ps cs f k)) kvk Qs := vk.mono fun b xs h => upd_frz gDN (by intro xs z; cases z) b xs h
    have gD3 : (upd N D0 (DO P w D0 kvs)) D0 = some (DO P w D0 kvs) := upd_same
    have sm3 : Same H (upd N D0 (DO P w D0 kvs)) := fun b o h => sB b o (fun z => by rw [z, nDk] at h; cases h) (sm _ _ h)
    generalize upd N D0 (DO P w D0 kvs) = G3 at sB gk vk gD3 sm3 ⊢
    clear bt gDN gDF gkF gfF vfF mrF mT gDB mrB
    try dsimp only [gName, List.set]
    -- the names
    refine ⟨D0, DO P w D0 kvs, gD3, trivial, fun od2 => ?_⟩
    have kD : Dk ≠ D0 := nDD
    refine ⟨.ref D0, rfl, D0, od2, kvs, rfl, upd_same, fun Ln hLn => ?_⟩
    have nLnD : Ln ≠ D0 := fun e => by rw [e, upd_same] at hLn; cases hLn
    have nLn : G3 Ln = none := by
      rw [upd_ne nLnD] at hLn
      exact hLn
    refine lc_it ND.walk_keysN (fun j F => F Ln = some (.lst (((Qs.take j).map (ktx ps cs f)).map V.str)) ∧ F D0 = some (.frz od2 (DO P w D0 kvs)) ∧ But D0 G3 F) ⟨upd_same, (upd_ne (Ne.symm nLnD)).trans upd_same, fun b o ne e => (upd_ne (ne_of_none e nLn)).trans ((upd_ne ne).trans e)⟩ (fun _ _ _ ⟨_, g, _⟩ => g) ?_ ?_
    · rintro j x F F' hj ⟨gL, gf', bt⟩ ⟨rfl, p, hp, rfl⟩
      obtain ⟨k, hk, _, _, _, _, tpk, _⟩ := mr0.get j p hp
      have mk := List.mem_of_getElem? hk
      have mG := But.tup (K := K) gD3 bt
      have tkq : Qs.take (j + 1) = Qs.take j ++ [k] := by rw [List.take_add_one, hk]; rfl
      refine ⟨rfl, yes ⟨.ref Dk, rfl, .ref p.2.1, rfl, Dk, p.2.1, kvk, plKey k, .str (ktx ps cs f k), rfl, rfl, ⟨.inl (bt _ _ kD gk), vk.oks.mono mG, pl_nk (mG _ _ (same_tup sm3 _ _ tpk)), plKey_depth _⟩, (vk.val k).2 mk, _, gL, ?_, ?_, (upd_ne (Ne.symm nLnD)).trans gf', fun b o ne e => (upd_ne (ne_of_none e nLn)).trans (bt b o ne e)⟩⟩
      · rw [List.length_map, List.length_map, List.length_take]
        omega
      · rw [upd_same, tkq, List.map_append, List.map_append]
        rfl
    rintro F ⟨gL, gf', bt⟩
    rw [kl2, List.take_length] at gL
    refine ⟨gf', ?_⟩
    have s3 : Same G3 (upd F D0 (DO P w D0 kvs)) := fun b o h => by
      by_cases z : b = D0
      · rw [z] at h ⊢
        rw [gD3] at h
        rw [← Option.some.inj h]
        exact upd_same
      · exact (upd_ne z).trans (bt b o z h)
    have gL : (upd F D0 (DO P w D0 kvs)) Ln = some (.lst ((Qs.map (ktx ps cs f)).map V.str)) := (upd_ne nLnD).trans gL
    generalize upd F D0 (DO P w D0 kvs) = G4 at s3 gL ⊢
    clear gf' bt nLn hLn nLnD
    refine ⟨Ln, Qs.map (ktx ps cs f), rfl, SqL.of gL, by rw [List.length_map]; omega, fun Sa ls nSa lnd lm ll => ?_⟩
    rw [List.length_map] at ll
    show tNil _ (upd G4 Sa (TX.SetTx P w Sa ls)) _
    refine ⟨Sa, ls, rfl, upd_same, by omega, fun ys py pm so hpy => ?_⟩
    have v1 : Same G4 (upd G4 Sa (TX.SetTx P w Sa ls)) := same_upd nSa
    have v2 : Same (upd G4 Sa (TX.SetTx P w Sa ls)) (upd (upd G4 Sa (TX.SetTx P w Sa ls)) py (.lst (ys.map V.str))) := same_upd hpy
    have s4 := s3.trans (v1.trans v2)
    have gpy : (upd (upd G4 Sa (TX.SetTx P w Sa ls)) py (.lst (ys.map V.str))) py = some (.lst (ys.map V.str)) := upd_same
    generalize upd (upd G4 Sa (TX.SetTx P w Sa ls)) py (.lst (ys.map V.str)) = H5 at s4 gpy ⊢
    clear v1 v2 hpy nSa gL
    have ynd : ys.Nodup := pm.nodup_iff.mpr lnd
    have ymem : ∀ x, x ∈ ys ↔ x ∈ Qs.map (ktx ps cs f) := fun x => pm.mem_iff.trans (lm x)
    have yl : ys.length ≤ 217 := by rw [pm.length_eq]; omega
    have Cn := names_step cl C ynd ymem yl
    have gD5 := s4 _ _ gD3
    have gk5 := s4 _ _ gk
    have vk5 := vk.mono (same_tup s4)
    have sm5 := sm3.trans s4
    have mr5 := mr0.mono (same_tup sm5) fun b vs _ e => sm5 _ _ e
    obtain ⟨kvg, vrg, lg, gg⟩ := mr5.vrows fun k => V.int ((ys.idxOf (ktx ps cs f k) : Nat) : Int)
    try dsimp only [gName, List.set]
    refine ⟨D0, DO P w D0 kvs, gD5, trivial, fun od3 => ?_⟩
    refine ⟨.ref D0, rfl, D0, od3, kvs, rfl, upd_same, fun L hL => ?_⟩
    have nLD : L ≠ D0 := fun e => by rw [e, upd_same] at hL; cases hL
    have nL : H5 L = none := by
      rw [upd_ne nLD] at hL
      exact hL
    have pyD : py ≠ D0 := fun e => by rw [e, gD5] at gpy; cases gpy
    refine lc_it ND.walk_keysN (fun j F => ∃ prs : List Addr, F L = some (.lst (prs.map V.ref)) ∧ PrP F prs (kvg.take j) ∧ F D0 = some (.frz od3 (DO P w D0 kvs)) ∧ But D0 H5 F) ⟨[], upd_same, .nil, (upd_ne (Ne.symm nLD)).trans upd_same, fun b o ne e => (upd_ne (ne_of_none e nL)).trans ((upd_ne ne).trans e)⟩ (fun _ _ _ ⟨_, _, _, g, _⟩ => g) ?_ ?_
    · rintro j x F F' hj ⟨prs, gL, pr, gf', bt⟩ ⟨rfl, p, hp, rfl⟩
      obtain ⟨k, hk, _, _, _, _, tpk, _⟩ := mr5.get j p hp
      have mk := List.mem_of_getElem? hk
      have e0 := gg j p k hp hk
      have pl := paired_len pr
      rw [List.length_take] at pl
      have mG := But.tup (K := K) gD5 bt
      obtain ⟨i0, hi0, least⟩ := first_idx ((ymem _).mpr (List.mem_map_of_mem mk))
      have ei := idx_at ynd hi0
      rw [ei] at e0
      have gpF := bt _ _ pyD gpy
      have flat : (ys.map V.str).all flatV = true := List.all_eq_true.mpr fun v hv => by
        obtain ⟨_, _, rfl⟩ := List.mem_map.mp hv
        rfl
      refine ⟨rfl, yes ⟨.ref p.2.1, rfl, .ref py, rfl, .inl ⟨rfl, _, SqL.of gpF⟩, .ref Dk, rfl, .ref p.2.1, rfl, Dk, p.2.1, kvk, plKey k, .str (ktx ps cs f k), rfl, rfl, ⟨.inl (bt _ _ kD gk5), vk5.oks.mono mG, pl_nk (mG _ _ tpk), plKey_depth _⟩, (vk5.val k).2 mk, py, _, .str (ktx ps cs f k), i0, .str (ktx ps cs f k), rfl, rfl, SqL.of gpF, rfl, flat, by rw [List.getElem?_map, hi0]; rfl, beq_self_eq_true (ktx ps cs f k), fun m z' hm hz => ?_, by show 2 ≤ sizeLine; decide, fun tp htp => ?_⟩⟩
      · rw [List.getElem?_map] at hz
        cases q : ys[m]? with
        | none => rw [q] at hz; cases hz
        | some v =>
          rw [q] at hz
          cases hz
          exact beq_eq_false_iff_ne.mpr (least m v hm q)
      · exact pr_step gL pr gf' bt nL nLD e0 (by omega) htp
    rintro F ⟨prs, gL, pr, gf', bt⟩
    rw [← lg, List.take_length] at pr
    refine ⟨gf', ?_⟩
    have s6 : Same H5 (upd F D0 (DO P w D0 kvs)) := fun b o h => by
      by_cases z : b = D0
      · rw [z] at h ⊢
        rw [gD5] at h
        rw [← Option.some.inj h]
        exact upd_same
      · exact (upd_ne z).trans (bt b o z h)
    have gL : (upd F D0 (DO P w D0 kvs)) L = some (.lst (prs.map V.ref)) := (upd_ne nLD).trans gL
    have pr : PrP (upd F D0 (DO P w D0 kvs)) prs kvg := paired_imp (fun p e h => (upd_ne fun z => by rw [z, gf'] at h; cases h).trans h) pr
    generalize upd F D0 (DO P w D0 kvs) = H6 at s6 gL pr ⊢
    have vrg := vrg.mono (same_tup s6)
    refine ⟨L, prs, kvg, rfl, SqL.of gL, paired_imp (fun p e h => SqT.of h) pr, vrg.oks, by rw [vrg.keys]; exact plKeys_nd nd, fun D9 hD9 => ?_⟩
    have n9 : H D9 = none := fresh_of (sm5.trans s6) hD9
    have s9 : Same H6 (upd H6 D9 (DO P w D9 kvg)) := same_upd hD9
    exact ⟨D9, py, kvg, _, ys, _, _, _, rfl, upd_same, vrg.mono (same_tup s9), (s6.trans s9) _ _ gpy, (sm5.trans s6).trans s9, Cn, n9⟩
end
end DW
/-! k43: the merged states in their order -/
namespace DW
open PySem PySem.Spec PyProof.Rows L2 TL
set_option autoImplicit false
theorem hasK_over {z : Str} {u : List Nat} : ∀ {ps : List (List Fc)} {k : Pl}, (∀ p ∈ ps, ∀ f ∈ p, FOk z f) → HasK ps k u → ∀ c ∈ u, c ∈ tl z
  | [], [], _, h => h.elim
  | [], _ :: _, _, h => h.elim
  | _ :: _, [], _, h => h.elim
  | q :: ps, o :: k, ok, h => by
    rcases h with ⟨i, _, h⟩ | h
    · exact lg_over (fun f hf => ok q List.mem_cons_self f (List.mem_of_mem_drop hf)) h
    · exact hasK_over (fun p hp => ok p (List.mem_cons_of_mem _ hp)) h
/-- a row of the merged automaton, as far as it is done -/
def RowB (ps : List (List Fc)) (f : Pl → Nat) (ord : List Nat) (k : Pl) (cs : List Nat) (row : List (Option Nat)) : Prop := row.length = cs.length ∧ ∀ (j c : Nat), cs[j]? = some c → (row[j]? = some none ∧ stepP ps k c = none) ∨ ∃ k' i', stepP ps k c = some k' ∧ ord[i']? = some (f k') ∧ row[j]? = some (some i')
theorem RowB.more {ps : List (List Fc)} {f : Pl → Nat} {ord : List Nat} {k : Pl} {cs : List Nat} {row : List (Option Nat)} (x : List Nat) (h : RowB ps f ord k cs row) : RowB ps f (ord ++ x) k cs row := ⟨h.1, fun j c hc => (h.2 j c hc).imp id fun ⟨k', i', e1, e2, e3⟩ => ⟨k', i', e1, by rw [List.getElem?_append_left (List.getElem?_eq_some_iff.mp e2).1]; exact e2, e3⟩⟩
theorem RowB.snoc {ps : List (List Fc)} {f : Pl → Nat} {ord : List Nat} {k : Pl} {cs : List Nat} {row : List (Option Nat)} {c : Nat} {o : Option Nat} (h : RowB ps f ord k cs row) (ho : (o = none ∧ stepP ps k c = none) ∨ ∃ k' i', stepP ps k c = some k' ∧ ord[i']? = some (f k') ∧ o = some i') : RowB ps f ord k (cs ++ [c]) (row ++ [o]) := by
  refine ⟨by rw [List.length_append, List.length_append, h.1]; rfl, fun j d hd => ?_⟩
  by_cases q : j < cs.length
  · rw [List.getElem?_append_left q] at hd
    rw [List.getElem?_append_left (by rw [h.1]; exact q)]
    exact h.2 j d hd
  · rw [List.getElem?_append_right (by omega)] at hd
    rw [List.getElem?_append_right (by rw [h.1]; omega), h.1]
    cases e : j - cs.length with
    | zero =>
      rw [e] at hd
      have hd : c = d := Option.some.inj hd
      rw [← hd]
      rcases ho with ⟨e1, e2⟩ | ⟨k', i', e1, e2, e3⟩
      · exact .inl ⟨by rw [e1]; rfl, e2⟩
      · exact .inr ⟨k', i', e1, e2, by rw [e3]; rfl⟩
    | succ m =>
      rw [e] at hd
      cases hd
structure BI (ps : List (List Fc)) (cs : List Nat) (Qs : List Pl) (f : Pl → Nat) (ord : List Nat) (rows : List (List (Option Nat))) (row : List (Option Nat)) : Prop where
  seen : Seen (rows.flatten ++ row) ord.length
  early : ∀ i, i < rows.length → i < kn (rows.take i).flatten
  nd : ord.Nodup
  rep : ∀ c ∈ ord, ∃ k ∈ Qs, f k = c
  nx : ∀ (i : Nat) (r : List (Option Nat)), rows[i]? = some r → ∃ k ∈ Qs, ord[i]? = some (f k) ∧ RowB ps f ord k cs r
theorem BI.few {ps : List (List Fc)} {cs : List Nat} {Qs : List Pl} {f : Pl → Nat} {ord : List Nat} {rows : List (List (Option Nat))} {row : List (Option Nat)} (B : BI ps cs Qs f ord rows row) {m : Nat} (h : ∀ k ∈ Qs, f k < m) : ord.length ≤ m := by
  have := B.nd.length_le_of_subset (l₂ := List.range m) fun c hc => by
    obtain ⟨k, hk, e⟩ := B.rep c hc
    rw [← e]
    exact List.mem_range.mpr (h k hk)
  rw [List.length_range] at this
  exact this
theorem BI.auP {z : Str} {ps : List (List Fc)} {Qs : List Pl} {f : Pl → Nat} {ord : List Nat} {rows : List (List (Option Nat))} (ok : ∀ p ∈ ps, ∀ g ∈ p, FOk z g) (cl : Closed ps (tl z) Qs) (ff : ∀ k ∈ Qs, ∀ l ∈ Qs, f k = f l ↔ SameL ps (tl z) k l) (B : BI ps (tl z) Qs f ord rows []) (full : rows.length = ord.length) (hd : ord[0]? = some (f (ps.map fun _ => some 0))) (h0 : (ps.map fun _ => some 0) ∈ Qs) : AuP (tl z) (HasL ps) ord.length (fun i u => ∃ k ∈ Qs, ord[i]? = some (f k) ∧ HasK ps k u) rows := by
  have all : ∀ {k l : Pl}, k ∈ Qs → l ∈ Qs → f k = f l → ∀ u, HasK ps k u → HasK ps l u := fun {k l} hk hl e u h => ((ff k hk l hl).mp e u (hasK_over ok h)).mp h
  have get : ∀ {i : Nat} {k : Pl}, k ∈ Qs → ord[i]? = some (f k) → ∀ u, (∃ l ∈ Qs, ord[i]? = some (f l) ∧ HasK ps l u) ↔ HasK ps k u := by
    intro i k hk e u
    constructor
    · rintro ⟨l, hl, e2, h⟩
      rw [e] at e2
      exact all hl hk (Option.some.inj e2).symm u h
    · exact fun h => ⟨k, hk, e, h⟩
  have repi : ∀ i, i < ord.length → ∃ k ∈ Qs, ord[i]? = some (f k) := fun i hi => by
    obtain ⟨k, hk, e⟩ := B.rep ord[i] (List.getElem_mem hi)
    exact ⟨k, hk, by rw [e]; exact List.getElem?_eq_getElem hi⟩
  refine ⟨(List.getElem?_eq_some_iff.mp hd).1, fun u => (get h0 hd u).trans (start_has u ps), full, fun i hi => ?_, fun i j hi hj h => ?_, fun i r hr => ?_, fun i r hr j c hc => ?_, ?_, fun i hi => B.early i (by omega)⟩
  · obtain ⟨k, hk, e⟩ := repi i hi
    exact (get hk e []).mpr (hasK_nil (cl.1 k hk).1 (cl.1 k hk).2)
  · obtain ⟨k, hk, e⟩ := repi i hi
    obtain ⟨l, hl, e2⟩ := repi j hj
    have : f k = f l := (ff k hk l hl).mpr fun u _ => (get hk e u).symm.trans ((h u).trans (get hl e2 u))
    rw [this, ← e2] at e
    have pw := List.pairwise_iff_getElem.mp (List.nodup_iff_pairwise_ne.mp B.nd)
    rw [List.getElem?_eq_getElem hi, List.getElem?_eq_getElem hj] at e
    have e := Option.some.inj e
    rcases Nat.lt_trichotomy i j with q | q | q
    · exact absurd e (pw i j hi hj q)
    · exact q
    · exact absurd e.symm (pw j i hj hi q)
  · obtain ⟨k, _, _, R⟩ := B.nx i r hr
    exact R.1
  · obtain ⟨k, hk, e, R⟩ := B.nx i r hr
    rcases R.2 j c hc with ⟨h1, h2⟩ | ⟨k', i', h1, h2, h3⟩
    · refine .inl ⟨h1, fun u hu => ?_⟩
      obtain ⟨k', e1, _⟩ := (step_lang (cl.1 k hk) u).mp ((get hk e _).mp hu)
      rw [h2] at e1
      cases e1
    · have mk' := cl.2 k hk c (List.mem_of_getElem? hc) k' h1
      refine .inr ⟨i', h3, (List.getElem?_eq_some_iff.mp h2).1, fun u => ?_⟩
      rw [get hk e, get mk' h2, step_lang (cl.1 k hk) u]
      constructor
      · rintro ⟨x, e1, h⟩
        rw [h1] at e1
        rw [Option.some.inj e1]
        exact h
      · exact fun h => ⟨k', h1, h⟩
  · have := B.seen
    rw [List.append_nil] at this
    exact this
theorem BI.start {ps : List (List Fc)} {cs : List Nat} {Qs : List Pl} {f : Pl → Nat} {k : Pl} (hk : k ∈ Qs) : BI ps cs Qs f [f k] [] [] :=
  ⟨.nil, fun i h => absurd h (Nat.not_lt_zero _), List.nodup_cons.mpr ⟨fun h => (nomatch h), .nil⟩, fun c hc => ⟨k, hk, (List.mem_singleton.mp hc).symm⟩, fun i r h => by simp at h⟩
theorem BI.none {ps : List (List Fc)} {cs : List Nat} {Qs : List Pl} {f : Pl → Nat} {ord : List Nat} {rows : List (List (Option Nat))} {row : List (Option Nat)} (B : BI ps cs Qs f ord rows row) : BI ps cs Qs f ord rows (row ++ [Option.none]) :=
  ⟨by rw [← List.append_assoc]; exact .none B.seen, B.early, B.nd, B.rep, B.nx⟩
theorem BI.old {ps : List (List Fc)} {cs : List Nat} {Qs : List Pl} {f : Pl → Nat} {ord : List Nat} {rows : List (List (Option Nat))} {row : List (Option Nat)} (B : BI ps cs Qs f ord rows row) {i : Nat} (h : i < ord.length) : BI ps cs Qs f ord rows (row ++ [some i]) :=
  ⟨by rw [← List.append_assoc]; exact .old B.seen h, B.early, B.nd, B.rep, B.nx⟩
theorem BI.new {ps : List (List Fc)} {cs : List Nat} {Qs : List Pl} {f : Pl → Nat} {ord : List Nat} {rows : List (List (Option Nat))} {row : List (Option Nat)} (B : BI ps cs Qs f ord rows row) {k : Pl} (hk : k ∈ Qs) (n : f k ∉ ord) : BI ps cs Qs f (ord ++ [f k]) rows (row ++ [some ord.length]) := by
  refine ⟨?_, B.early, ?_, fun c hc => ?_, fun i r hr => ?_⟩
  · rw [← List.append_assoc, List.length_append]
    exact .new B.seen
  · refine List.nodup_append.mpr ⟨B.nd, List.nodup_cons.mpr ⟨fun h => (nomatch h), .nil⟩, fun a ha b hb e => n ?_⟩
    rw [List.mem_singleton.mp hb] at e
    rw [← e]
    exact ha
  · rcases List.mem_append.mp hc with h | h
    · exact B.rep c h
    · exact ⟨k, hk, (List.mem_singleton.mp h).symm⟩
  · obtain ⟨l, hl, e, R⟩ := B.nx i r hr
    exact ⟨l, hl, by rw [List.getElem?_append_left (List.getElem?_eq_some_iff.mp e).1]; exact e, R.more _⟩
theorem BI.row {ps : List (List Fc)} {cs : List Nat} {Qs : List Pl} {f : Pl → Nat} {ord : List Nat} {rows : List (List (Option Nat))} {row : List (Option Nat)} (B : BI ps cs Qs f ord rows row) {k : Pl} (hk : k ∈ Qs) (e : ord[rows.length]? = some (f k)) (R : RowB ps f ord k cs row) (ea : rows.length < kn rows.flatten) : BI ps cs Qs f ord (rows ++ [row]) [] := by
  refine ⟨by rw [List.append_nil, List.flatten_append]; simpa using B.seen, fun i hi => ?_, B.nd, B.rep, fun i r hr => ?_⟩
  · rw [List.length_append] at hi
    have hi : i < rows.length + 1 := hi
    rw [List.take_append_of_le_length (by omega)]
    rcases Nat.lt_or_ge i rows.length with q | q
    · exact B.early i q
    · have : i = rows.length := by omega
      rw [this, List.take_length]
      exact ea
  · by_cases q : i < rows.length
    · rw [List.getElem?_append_left q] at hr
      exact B.nx i r hr
    · rw [List.getElem?_append_right (by omega)] at hr
      cases j : i - rows.length with
      | zero =>
        rw [j] at hr
        have hr : row = r := Option.some.inj hr
        have : i = rows.length := by omega
        rw [this, ← hr]
        exact ⟨k, hk, e, R⟩
      | succ m =>
        rw [j] at hr
        cases hr
end DW
/-! k43: the smallest automaton -/
namespace DW
open PySem PySem.Spec PyProof.Rows L2 TL
open ND (DO KOks NK NKs valN putN setN Ent)
set_option autoImplicit false
def PrG {β : Type} (g : β → List V) (F : Hp) (prs : List Addr) (kv : List β) : Prop := Paired (fun p e => F p = some (.tup (g e))) prs kv
theorem pr_stepG {β : Type} {g : β → List V} {H F : Hp} {D0 L tp : Addr} {x : HO} {prs : List Addr} {kv : List β} {j : Nat} {e : β} (gL : F L = some (.lst (prs.map V.ref))) (pr : PrG g F prs (kv.take j)) (gf : F D0 = some x) (bt : But D0 H F) (nL : H L = none) (nLD : L ≠ D0) (he : kv[j]? = some e) (l : prs.length < sizeLine) (htp : F tp = none) :
    ∃ acc, (upd F tp (.tup (g e))) L = some (.lst acc) ∧ acc.length < sizeLine ∧ ∃ prs' : List Addr, (upd (upd F tp (.tup (g e))) L (.lst (acc ++ [V.ref tp]))) L = some (.lst (prs'.map V.ref)) ∧ PrG g (upd (upd F tp (.tup (g e))) L (.lst (acc ++ [V.ref tp]))) prs' (kv.take (j + 1)) ∧ (upd (upd F tp (.tup (g e))) L (.lst (acc ++ [V.ref tp]))) D0 = some x ∧ But D0 H (upd (upd F tp (.tup (g e))) L (.lst (acc ++ [V.ref tp]))) := by
  have st := same_upd (o := .tup (g e)) htp
  have gL1 := st _ _ gL
  have gtp : (upd F tp (.tup (g e))) tp = some (.tup (g e)) := upd_same
  generalize upd F tp (.tup (g e)) = G at st gL1 gtp ⊢
  have tne : ∀ {b : Addr} {xs : List V}, G b = some (.tup xs) → b ≠ L := fun hb z => by
    rw [z, gL1] at hb
    cases hb
  have tk : kv.take (j + 1) = kv.take j ++ [e] := by rw [List.take_add_one, he]; rfl
  refine ⟨_, gL1, by rw [List.length_map]; exact l, prs ++ [tp], by rw [upd_same, List.map_append]; rfl, ?_, (upd_ne (Ne.symm nLD)).trans (st _ _ gf), fun b o ne h => (upd_ne (ne_of_none h nL)).trans (st _ _ (bt b o ne h))⟩
  rw [tk]
  exact paired_snoc (R := fun (p : Addr) (e : β) => (upd G L (.lst (prs.map V.ref ++ [V.ref tp]))) p = some (.tup (g e))) ((upd_ne (tne gtp)).trans gtp) (paired_imp (R := fun (p : Addr) (e : β) => F p = some (.tup (g e))) (fun p e h => (upd_ne (tne (st _ _ h))).trans (st _ _ h)) pr)
/-- class numbers and places -/
def memL (f : Pl → Nat) (kvs : List Ent) (Qs : List Pl) : List (Key × V) := List.zipWith (fun p k => ((.inl (f k : Int) : Key), V.ref p.2.1)) kvs Qs
theorem memL_get {f : Pl → Nat} {kvs : List Ent} {Qs : List Pl} {j : Nat} {p : Ent} {k : Pl} (hp : kvs[j]? = some p) (hk : Qs[j]? = some k) : (memL f kvs Qs)[j]? = some (.inl (f k : Int), V.ref p.2.1) := by
  unfold memL
  rw [List.getElem?_zipWith, hp, hk]
theorem memL_of {f : Pl → Nat} {kvs : List Ent} {Qs : List Pl} {e : Key × V} (h : e ∈ memL f kvs Qs) : ∃ (j : Nat) (p : Ent) (k : Pl), kvs[j]? = some p ∧ Qs[j]? = some k ∧ e = (.inl (f k : Int), V.ref p.2.1) := by
  obtain ⟨j, hj⟩ := List.getElem?_of_mem h
  unfold memL at hj
  rw [List.getElem?_zipWith] at hj
  cases hp : kvs[j]? with
  | none => rw [hp] at hj; simp at hj
  | some p =>
    cases hk : Qs[j]? with
    | none => rw [hp, hk] at hj; simp at hj
    | some k =>
      rw [hp, hk] at hj
      exact ⟨j, p, k, hp, hk, (Option.some.inj hj).symm⟩
theorem merge_val (key : Key) : ∀ (prs acc : List (Key × V)), ((∃ v, (key, v) ∈ prs) ∨ (valV acc key).isSome = true) → ∃ v, valV (mergeK acc prs) key = some v ∧ ((key, v) ∈ prs ∨ valV acc key = some v)
  | [], acc, h => by
    rcases h with ⟨v, h⟩ | h
    · exact nomatch h
    · obtain ⟨v, e⟩ := Option.isSome_iff_exists.mp h
      exact ⟨v, e, .inr e⟩
  | (k, y) :: prs, acc, h => by
    have st : mergeK acc ((k, y) :: prs) = mergeK (putK acc k y) prs := rfl
    have hv : (∃ v, (key, v) ∈ prs) ∨ (valV (putK acc k y) key).isSome = true := by
      rw [valV_put]
      rcases h with ⟨v, h⟩ | h
      · rcases List.mem_cons.mp h with q | q
        · right
          injection q with q1 q2
          rw [if_pos q1]
          rfl
        · exact .inl ⟨v, q⟩
      · right
        split
        · rfl
        · exact h
    obtain ⟨v, e1, e2⟩ := merge_val key prs (putK acc k y) hv
    refine ⟨v, by rw [st]; exact e1, ?_⟩
    rcases e2 with e2 | e2
    · exact .inl (List.mem_cons_of_mem _ e2)
    · rw [valV_put] at e2
      split at e2
      · rename_i q
        rw [← Option.some.inj e2, q]
        exact .inl List.mem_cons_self
      · exact .inr e2
theorem ints_in (l : List Nat) (c : Nat) : inV (.int (c : Int)) (l.map fun c : Nat => V.int (c : Int)) = decide (c ∈ l) := by
  unfold inV
  rw [Bool.eq_iff_iff, List.any_eq_true, decide_eq_true_iff]
  constructor
  · rintro ⟨x, hx, e⟩
    obtain ⟨y, hy, rfl⟩ := List.mem_map.mp hx
    have e : ((y : Int) == (c : Int)) = true := e
    rw [← Int.ofNat.inj (beq_iff_eq.mp e)]
    exact hy
  · exact fun h => ⟨.int (c : Int), List.mem_map_of_mem (f := fun c : Nat => V.int (c : Int)) h, beq_self_eq_true (c : Int)⟩
theorem ints_flat (l : List Nat) : (l.map fun c : Nat => V.int (c : Int)).all flatV = true := List.all_eq_true.mpr fun v hv => by
  obtain ⟨_, _, rfl⟩ := List.mem_map.mp hv
  rfl
theorem first_nat {u : Nat} {hs : List Nat} (h : u ∈ hs) : ∃ j : Nat, hs[j]? = some u ∧ ∀ (m v : Nat), m < j → hs[m]? = some v → v ≠ u := by
  induction hs with
  | nil => cases h
  | cons a hs ih =>
    by_cases e : a = u
    · exact ⟨0, by rw [e]; rfl, fun m v hm _ => absurd hm (Nat.not_lt_zero _)⟩
    · rcases List.mem_cons.mp h with q | q
      · exact absurd q.symm e
      · obtain ⟨j, h1, h2⟩ := ih q
        refine ⟨j + 1, h1, fun m v hm hv => ?_⟩
        cases m with
        | zero =>
          cases hv
          exact e
        | succ m => exact h2 m v (by omega) hv
theorem ints_idx {l : List Nat} {j : Nat} {c : Nat} (hj : ∀ (m v : Nat), m < j → l[m]? = some v → v ≠ c) (m : Nat) (z' : V) (hm : m < j) (hz : (l.map fun c : Nat => V.int (c : Int))[m]? = some z') : eqV z' (.int (c : Int)) = false := by
  rw [List.getElem?_map] at hz
  cases q : l[m]? with
  | none => rw [q] at hz; cases hz
  | some v =>
    rw [q] at hz
    cases hz
    exact beq_eq_false_iff_ne.mpr fun e => hj m v hm q (Int.ofNat.inj e)
def spSma (K : PySem.W.Frag) : Sp := fun vs H Q _ => ∃ (a : Addr) (us : List V) (ps : List (List Fc)) (z : Str), vs = [.ref a, .str z] ∧ SqL K H a us ∧ IsL K H us ps ∧ Alph z ∧ (∀ p ∈ ps, ∀ f ∈ p, FOk z f) ∧ ps.length ≤ 1000 ∧ (∀ q ∈ ps, q.length ≤ 1000) ∧ prodN ps ≤ 216 ∧
  ∀ (H' : Hp) (q : Addr) (vs : List V) (rows : List (List (Option Nat))), Same H H' → H' q = some (.lst vs) → IsRows K H' vs rows → (ps = [] → rows = []) → (ps ≠ [] → ∃ n T, AuP (tl z) (HasL ps) n T rows) → Q (.ref q) H'
section
variable {P : Program} {w : World} {K : PySem.W.Frag} {mg : Str → Option Value} {base : Heap}
theorem scSma : FnScope ["_law_products_here", "_law_alphabet_here", "_law_rows", "_law_classes_here", "_law_order", "_law_found", "_law_places", "_law_members", "_law_at", "_law_row", "_law_after"] ["_law_products_here","_law_alphabet_here"] (defScope sLSmallest) := ⟨rfl, rfl, rfl, by decide +kernel, rfl, by decide +kernel, by decide +kernel⟩
theorem u1m {k : Nat} {A : Around} (hr : Room k A) : A.units + 1 < cLine := by
  have := hr.un
  omega
theorem u64m {k : Nat} {A : Around} (hr : Room k A) : A.units + 64 < cLine := by
  have := hr.un
  omega
theorem ok_sma (D : Df K mg "_law_smallest" sLSmallest ["_law_products_here","_law_alphabet_here"]) (Dm : Df K mg "_law_machine" sLMachine ["_law_products_here","_law_alphabet_here"]) (Dc : Df K mg "_law_classes" sLClasses ["_law_rows"]) (C : DfPls K mg) (md : mg "dict" = none) (mr : mg "repr" = none) (mso : mg "sorted" = none) (ms : mg "set" = none) : GA.FnG P w K mg base 4 D.f D.fd ["_law_products_here","_law_alphabet_here"] (spSma K) := by
  have Gm : FnOk P w K mg base CX0 3 Dm.f Dm.fd ["_law_products_here","_law_alphabet_here"] (spMac P w K) := ok_mac Dm C
  have Gc : GA.FnG P w K mg base 2 Dc.f Dc.fd ["_law_rows"] (spCla P w K) := ok_cla Dc C.ml md mr mso ms
  refine GA.okG D.F scSma (fun vs H Q E h => ?_) (fun cdv A outer s H vs Q E hr hg h => ?_)
  · obtain ⟨a, us, ps, z, rfl, _⟩ := h
    rfl
  · obtain ⟨a, us, ps, z, rfl, ha, iL, al, ok, pl, sh, pn, kk⟩ := h
    have hr2 : Room 2 _ := hr.mono (by decide)
    have sl := sizeLine_eq
    refine ⟨_, PSs.nox (pss_cons (ps_set (i := 2) scSma.nd rfl (.inl rfl) (pe_call Gm hr (by rfl) Dm.g Dm.F.kp Dm.b .nil pass0 (pa_cons (pv 0) (pa_cons (pv 1) pa_nil)))) (pss_cons (ps_asg (pe_tup (pa_cons (GA.pe_callG Gc hr2 hg (by rfl) Dc.g Dc.F.kp Dc.b .nil pass0 (pa_cons (pv 2) pa_nil)) (pa_cons (pe_lst pa_nil) (pa_cons (pe_lst pa_nil) pa_nil)))) (pg_tup rfl (pgs_cons (pg_name (i := 3) scSma.nd rfl (.inr rfl)) (pgs_cons (pg_name (i := 4) scSma.nd rfl (.inl rfl)) (pgs_cons (pg_name (i := 5) scSma.nd rfl (.inl rfl)) pgs_nil))))) (pss_cons (ps_set (i := 7) scSma.nd rfl (.inl rfl) (pe_callTy (call_dictP rfl) (by rfl) md (by decide +kernel) (pa_cons (pe_lock (pe_lc (own := [("_law_places", 6)]) (g := gName 6) rfl scSma.nd (ND.pi_keysN (pv 2)) (blkOk_by (N := ["_law_products_here", "_law_alphabet_here", "_law_rows", "_law_classes_here", "_law_order", "_law_found", "_law_places", "_law_members", "_law_at", "_law_row", "_law_after"]) (sc := defScope sLSmallest) (by decide +kernel)) (fun _ _ _ _ _ => pg_name (i := 6) scSma.nd rfl (Or.inl rfl)) (fun _ _ _ _ _ => pts_nil) (fun _ _ _ _ _ => (pe_tup (pa_cons (DGP.pe_dgetP (P := P) (w := w) (K := K) rfl rfl rfl (u9m hr) (pv 3) (pv 6) (fun _ _ => rfl)) (pa_cons (pv 6) pa_nil)))))) pa_nil))) (pss_cons (ps_lock (ps_for PassesOwn.never rfl (ND.pi_keysN (pv 2)) (pg_name (i := 6) scSma.nd rfl (.inl rfl)) (pss_one (ps_if (pt_cmpR (op_eqD (u64m hr)) (pv 4) (pe_lst pa_nil) (nomark _)) (pss_one (ps_expr (pe_bm PySem.F.plainAttrs_list PySem.F.slot_list_append PySem.F.type_list_append mt_append (pv 4) (pa_cons (ND.pe_dgetN (u9m hr) (pv 3) (pv 6) (fun _ _ => rfl)) pa_nil)))) pss_nil)))) (pss_cons (ps_set (i := 8) scSma.nd rfl (.inl rfl) pe_int) (pss_cons (ps_while PassesOwn.never (pt_cmpR op_lt (pv 8) (pe_callB call_len_seq (by rfl) C.ml PySem.boot_len (pa_cons (pv 4) pa_nil)) (nomark _)) (pss_cons (ps_set (i := 9) scSma.nd rfl (.inl rfl) (pe_lst pa_nil)) (pss_cons (ps_for PassesOwn.never rfl (pi_list (ND.pe_dgetN (u9m hr) (pv 2) (pe_dget (u1m hr) (pv 7) (pe_ix ix_list (pv 4) (pv 8) (fun _ _ => rfl)) (fun _ _ => rfl)) (fun _ _ => rfl))) (pg_name (i := 10) scSma.nd rfl (.inl rfl)) (C8.pss_cut (ps_if (pw_and (pt_cmpR op_notN (pv 10) pe_non (nomark _)) (pw_and1 (pt_cmpR (r := rIn K true) op_notIn_seq (ND.pe_dgetN (u9m hr) (pv 3) (pv 10) (fun _ _ => rfl)) (pv 4) rfl))).pt (pss_one (ps_expr (pe_bm PySem.F.plainAttrs_list PySem.F.slot_list_append PySem.F.type_list_append mt_append (pv 4) (pa_cons (ND.pe_dgetN (u9m hr) (pv 3) (pv 10) (fun _ _ => rfl)) pa_nil)))) pss_nil) (pss_one (ps_expr (pe_bm PySem.F.plainAttrs_list PySem.F.slot_list_append PySem.F.type_list_append mt_append (pv 9) (pa_cons (pe_ifExp (pt_cmpR op_isN (pv 10) pe_non (nomark _)) pe_non (pe_bm PySem.F.plainAttrs_list PySem.F.slot_list_index PySem.F.type_list_index mt_index (pv 4) (pa_cons (ND.pe_dgetN (u9m hr) (pv 3) (pv 10) (fun _ _ => rfl)) pa_nil))) pa_nil)))))) (pss_cons (ps_expr (pe_bm PySem.F.plainAttrs_list PySem.F.slot_list_append PySem.F.type_list_append mt_append (pv 5) (pa_cons (pe_callTy call_tuple_of (by rfl) C.mt (by decide +kernel) (pa_cons (pv 9) pa_nil)) pa_nil))) (pss_one (ps_set (i := 8) scSma.nd rfl (.inl rfl) (pe_op op_add (pv 8) pe_int))))))) (pss_one (ps_ret (pv 5))))))))), ?_⟩
    have zl : (tl z).length ≤ 3 := al.2.2.1
    refine ⟨.ref a, rfl, .str z, rfl, a, us, ps, z, rfl, ha, iL, al, ok, pl, sh, by omega, fun H1 D0 na kvs Qs s1 gD mr0 cl nd ql q0 q1 => ?_⟩
    try dsimp only [gName, List.set]
    refine ⟨.ref D0, rfl, D0, na, kvs, ps, tl z, Qs, rfl, gD, mr0, cl, nd, by omega, zl, fun H2 Dc kvc f s2 nDc0 gc vc ff f217 => ?_⟩
    have nDcD : Dc ≠ D0 := (ne_of_none gD nDc0).symm
    refine ⟨by show 0 ≤ sizeLine; decide, fun od hod => ⟨by show 0 ≤ sizeLine; decide, fun fo hfo => ⟨by show 3 ≤ sizeLine; decide, fun tp htp => ⟨tp, _, rfl, SqT.of upd_same, rfl, _, _, rfl, _, _, rfl, _, _, rfl, rfl, ?_⟩⟩⟩⟩
    have t1 := same_upd (o := .lst []) hod
    have t2 := same_upd (o := .lst []) hfo
    have t3 := same_upd (o := .tup [V.ref Dc, V.ref od, V.ref fo]) htp
    have nod : H2 od = none := hod
    have nfo : H2 fo = none := fresh_of t1 hfo
    have nof : od ≠ fo := ne_of_none upd_same hfo
    have god := t3 _ _ (t2 _ _ (upd_same (H := H2) (a := od) (o := .lst [])))
    have gfo := t3 _ _ (upd_same (H := upd H2 od (.lst [])) (a := fo) (o := .lst []))
    have tt := t1.trans (t2.trans t3)
    generalize upd (upd (upd H2 od (.lst [])) fo (.lst [])) tp (.tup [V.ref Dc, V.ref od, V.ref fo]) = H3 at god gfo tt ⊢
    clear t1 t2 t3 hod hfo htp
    have sm := s2.trans tt
    have gD3 := sm _ _ gD
    have gc3 := tt _ _ gc
    have mr3 := mr0.mono (same_tup sm) fun b vs _ e => sm _ _ e
    have vc3 := vc.mono (same_tup tt)
    have kl := mr0.len
    try dsimp only [gName, List.set]
    -- the members
    refine ⟨D0, DO P w D0 kvs, gD3, trivial, fun ob => ?_⟩
    refine ⟨.ref D0, rfl, D0, ob, kvs, rfl, upd_same, fun L hL => ?_⟩
    have nLD : L ≠ D0 := fun e => by rw [e, upd_same] at hL; cases hL
    have nL : H3 L = none := by
      rw [upd_ne nLD] at hL
      exact hL
    have nDc : Dc ≠ D0 := nDcD
    refine lc_it ND.walk_keysN (fun j F => ∃ prs : List Addr, F L = some (.lst (prs.map V.ref)) ∧ PrG (fun e : Key × V => [kV e.1, e.2]) F prs ((memL f kvs Qs).take j) ∧ F D0 = some (.frz ob (DO P w D0 kvs)) ∧ But D0 H3 F) ⟨[], upd_same, .nil, (upd_ne (Ne.symm nLD)).trans upd_same, fun b o ne e => (upd_ne (ne_of_none e nL)).trans ((upd_ne ne).trans e)⟩ (fun _ _ _ ⟨_, _, _, g, _⟩ => g) ?_ ?_
    · rintro j x F F' hj ⟨prs, gL, pr, gf', bt⟩ ⟨rfl, p, hp, rfl⟩
      obtain ⟨k, hk, _, _, _, _, tpk, _⟩ := mr3.get j p hp
      have mk := List.mem_of_getElem? hk
      have e0 := memL_get (f := f) hp hk
      have pl := paired_len pr
      rw [List.length_take] at pl
      have mG := But.tup (K := K) gD3 bt
      refine ⟨rfl, yes ⟨.ref Dc, rfl, .ref p.2.1, rfl, Dc, p.2.1, kvc, plKey k, .int (f k : Int), rfl, rfl, ⟨.inl (bt _ _ nDc gc3), vc3.oks.mono mG, pl_nk (mG _ _ tpk), plKey_depth _⟩, (vc3.val k).2 mk, .ref p.2.1, rfl, by show 2 ≤ sizeLine; decide, fun tp htp => ?_⟩⟩
      exact pr_stepG (g := fun e : Key × V => [kV e.1, e.2]) gL pr gf' bt nL nLD e0 (by omega) htp
    rintro F ⟨prs, gL, pr, gf', bt⟩
    have ml : (memL f kvs Qs).length = kvs.length := by
      unfold memL
      rw [List.length_zipWith, kl, Nat.min_self]
    rw [← ml, List.take_length] at pr
    refine ⟨gf', ?_⟩
    have s3 : Same H3 (upd F D0 (DO P w D0 kvs)) := fun b o h => by
      by_cases z : b = D0
      · rw [z] at h ⊢
        rw [gD3] at h
        rw [← Option.some.inj h]
        exact upd_same
      · exact (upd_ne z).trans (bt b o z h)
    have gL : (upd F D0 (DO P w D0 kvs)) L = some (.lst (prs.map V.ref)) := (upd_ne nLD).trans gL
    have pr : PrG (fun e : Key × V => [kV e.1, e.2]) (upd F D0 (DO P w D0 kvs)) prs (memL f kvs Qs) := paired_imp (fun p e h => (upd_ne fun z => by rw [z, gf'] at h; cases h).trans h) pr
    generalize upd F D0 (DO P w D0 kvs) = H4 at s3 gL pr ⊢
    clear gf' bt nLD nL hL
    refine ⟨L, prs, memL f kvs Qs, rfl, SqL.of gL, paired_imp (fun p e h => SqT.of h) pr, fun Dm hDm => ?_⟩
    have s4 := s3.trans (same_upd (o := .dK (mergeK [] (memL f kvs Qs))) hDm)
    have gm : (upd H4 Dm (.dK (mergeK [] (memL f kvs Qs)))) Dm = some (.dK (mergeK [] (memL f kvs Qs))) := upd_same
    generalize upd H4 Dm (.dK (mergeK [] (memL f kvs Qs))) = H5 at s4 gm ⊢
    have nDm : H3 Dm = none := fresh_of s3 hDm
    clear hDm gL pr s3 ml
    have god := s4 _ _ god
    have gfo := s4 _ _ gfo
    have gD5 := s4 _ _ gD3
    have gc5 := s4 _ _ gc3
    have mr5 := mr3.mono (same_tup s4) fun b vs _ e => s4 _ _ e
    have vc5 := vc3.mono (same_tup s4)
    try dsimp only [gName, List.set]
    have nod5 : od ≠ D0 := fun e => by rw [e, gD5] at god; cases god
    have nodc : od ≠ Dc := fun e => by rw [e, gc5] at god; cases god
    have nodm : od ≠ Dm := fun e => by rw [e, gm] at god; cases god
    have vinj : ∀ l : List Nat, l.map (fun c : Nat => V.int (c : Int)) = (l.map (fun c : Nat => (c : Int))).map V.int := fun l => by rw [List.map_map]; rfl
    -- the first class
    refine ⟨D0, DO P w D0 kvs, gD5, trivial, fun ob2 => ?_⟩
    have gDF : (upd H5 D0 (.frz ob2 (DO P w D0 kvs))) D0 = some (.frz ob2 (DO P w D0 kvs)) := upd_same
    have gcF : (upd H5 D0 (.frz ob2 (DO P w D0 kvs))) Dc = some (DO P w Dc kvc) := (upd_ne nDcD).trans gc5
    have mTF : ∀ b xs, SqT K H5 b xs → SqT K (upd H5 D0 (.frz ob2 (DO P w D0 kvs))) b xs := fun b xs h => upd_do gD5 b xs h
    refine ⟨.ref D0, rfl, D0, ob2, kvs, rfl, gDF, ?_⟩
    refine for_it ND.walk_keysN (fun j σ G => ∃ y6 : Option V, σ = [some (.ref a), some (.str z), some (.ref D0), some (.ref Dc), some (.ref od), some (.ref fo), y6, some (.ref Dm), none, none, none] ∧ G od = some (.lst (((Qs.take (min j 1)).map f).map fun c : Nat => V.int (c : Int))) ∧ But od (upd H5 D0 (.frz ob2 (DO P w D0 kvs))) G) ⟨_, rfl, (upd_ne nod5).trans god, fun _ _ _ e => e⟩ (fun _ _ _ _ ⟨_, _, _, bt⟩ => bt _ _ (Ne.symm nod5) gDF) ?_ ?_
    · rintro j x σ N N' hj ⟨y6, rfl, gO, bt⟩ ⟨rfl, p, hp, rfl⟩
      obtain ⟨k, hk, _, _, _, _, tpk, _⟩ := mr5.get j p hp
      have mk := List.mem_of_getElem? hk
      have bT : ∀ b xs, SqT K (upd H5 D0 (.frz ob2 (DO P w D0 kvs))) b xs → SqT K N' b xs := fun b xs h => by
        have gof : (upd H5 D0 (.frz ob2 (DO P w D0 kvs))) od = some (.lst []) := (upd_ne nod5).trans god
        rcases h with (h | ⟨u, h⟩) | h
        · exact .inl (.inl (bt _ _ (fun e => by rw [e, gof] at h; cases h) h))
        · exact .inl (.inr ⟨u, bt _ _ (fun e => by rw [e, gof] at h; cases h) h⟩)
        · exact .inr h
      try dsimp only [gName, List.set]
      refine ⟨.ref od, rfl, by show 0 ≤ sizeLine; decide, fun n0 hn0 => ?_⟩
      have sn := same_upd (o := .lst []) hn0
      have gO1 := sn _ _ gO
      rw [vinj] at gO1
      refine ⟨intD (((Qs.take (min j 1)).map f).map fun c : Nat => (c : Int)), .list [], int_dp (SqL.of gO1), .lst (SqL.of upd_same) .nil, int_shaped _, by decide +kernel, ?_⟩
      rw [int_eqv_nil]
      refine ⟨_, rfl, ?_⟩
      rw [← vinj] at gO1
      have btn : But od (upd H5 D0 (.frz ob2 (DO P w D0 kvs))) (upd N' n0 (.lst [])) := fun b o ne e => sn _ _ (bt b o ne e)
      have gcN := sn _ _ (bt _ _ (Ne.symm nodc) gcF)
      cases j with
      | zero =>
        refine iteT ⟨.ref od, rfl, .inl ⟨rfl, _, SqL.of gO1⟩, .ref Dc, rfl, .ref p.2.1, rfl, Dc, p.2.1, kvc, plKey k, .int (f k : Int), rfl, rfl, ⟨.inl gcN, (vc5.oks.mono mTF).mono fun b xs h => same_tup sn b xs (bT b xs h), pl_nk (same_tup sn _ _ (bT _ _ (mTF _ _ tpk))), plKey_depth _⟩, (vc5.val k).2 mk, od, _, .int (f k : Int), rfl, rfl, gO1, by show 0 < sizeLine; decide, ?_⟩
        have tk : Qs.take (min (0 + 1) 1) = [k] := by
          show Qs.take 1 = [k]
          cases Qs with
          | nil => simp at hk
          | cons q r =>
            have : q = k := Option.some.inj hk
            rw [this]
            rfl
        rw [tk]
        exact ⟨_, rfl, upd_same, fun b o ne e => (upd_ne ne).trans (btn b o ne e)⟩
      | succ j =>
        have em : (((Qs.take (min (j + 1) 1)).map f).map fun c : Nat => (c : Int)).isEmpty = false := by
          have : min (j + 1) 1 = 1 := by omega
          rw [this]
          cases Qs with
          | nil => simp at hk
          | cons q r => rfl
        rw [em]
        have e1 : min (j + 1 + 1) 1 = min (j + 1) 1 := by omega
        rw [e1]
        exact iteF ⟨_, rfl, gO1, btn⟩
    rintro σ N ⟨y6, rfl, gO, bt⟩
    have gDN := bt _ _ (Ne.symm nod5) gDF
    refine ⟨gDN, ?_⟩
    have s6 : But od H5 (upd N D0 (DO P w D0 kvs)) := fun b o ne h => by
      by_cases e : b = D0
      · rw [e] at h ⊢
        rw [gD5] at h
        rw [← Option.some.inj h]
        exact upd_same
      · exact (upd_ne e).trans (bt b o ne ((upd_ne e).trans h))
    have gO : (upd N D0 (DO P w D0 kvs)) od = _ := (upd_ne nod5).trans gO
    generalize upd N D0 (DO P w D0 kvs) = H6 at s6 gO ⊢
    clear bt gDN gcF gDF mTF
    try dsimp only [gName, List.set]
    rw [kl] at gO
    have gfo6 := s6 _ _ (Ne.symm nof) gfo
    have gD6 := s6 _ _ (Ne.symm nod5) gD5
    have gc6 := s6 _ _ (Ne.symm nodc) gc5
    have gm6 := s6 _ _ (Ne.symm nodm) gm
    have t6 : ∀ b xs, SqT K H5 b xs → SqT K H6 b xs := fun b xs h => by
      rcases h with (h | ⟨u, h⟩) | h
      · exact .inl (.inl (s6 _ _ (fun e => by rw [e, god] at h; cases h) h))
      · exact .inl (.inr ⟨u, s6 _ _ (fun e => by rw [e, god] at h; cases h) h⟩)
      · exact .inr h
    have nod1 : H1 od = none := fresh_of s2 nod
    have nfo1 : H1 fo = none := fresh_of s2 nfo
    have mr6 : MRows K H6 ps (tl z) na kvs Qs := mr0.mono (fun b xs h => t6 _ _ (same_tup (sm.trans s4) b xs h)) fun b vs _ e => s6 _ _ (ne_of_none e nod1) ((sm.trans s4) _ _ e)
    have vc6 := vc5.mono t6
    have sH6 : Same H H6 := fun b o e => s6 _ _ (fun z => by rw [z, fresh_of s1 nod1] at e; cases e) (((s1.trans sm).trans s4) _ _ e)
    have nodH : H od = none := fresh_of s1 nod1
    have nfoH : H fo = none := fresh_of s1 nfo1
    have nfoD : fo ≠ D0 := fun e => by rw [e, gD6] at gfo6; cases gfo6
    have nfoc : fo ≠ Dc := fun e => by rw [e, gc6] at gfo6; cases gfo6
    have nfom : fo ≠ Dm := fun e => by rw [e, gm6] at gfo6; cases gfo6
    have lne : ∀ (k : Pl), k ∈ Qs → ∃ l vs, valN kvs (plKey k) = some (.ref l) ∧ H6 l = some (.lst vs) ∧ l ≠ od ∧ l ≠ fo ∧ BVs K H6 vs ((tl z).map (stepP ps k)) := fun k hk => by
      obtain ⟨l, vs, e1, e2, _, e4⟩ := (mr0.val k).2 hk
      refine ⟨l, vs, e1, s6 _ _ (ne_of_none e2 nod1) ((sm.trans s4) _ _ e2), ne_of_none e2 nod1, ne_of_none e2 nfo1, e4.mono fun b xs h => t6 _ _ (same_tup (sm.trans s4) b xs h)⟩
    have oks6 := mr6.oks
    have okc6 := vc6.oks
    have memb : ∀ k ∈ Qs, ∃ b k', valV (mergeK [] (memL f kvs Qs)) (.inl (f k : Int)) = some (.ref b) ∧ k' ∈ Qs ∧ f k' = f k ∧ SqT K H6 b (k'.map oV) := fun k hk => by
      obtain ⟨j, hj⟩ := List.getElem?_of_mem hk
      have jl : j < kvs.length := by
        rw [kl]
        exact (List.getElem?_eq_some_iff.mp hj).1
      obtain ⟨v, e1, e2⟩ := merge_val (.inl (f k : Int)) (memL f kvs Qs) [] (.inl ⟨_, List.mem_of_getElem? (memL_get (List.getElem?_eq_getElem jl) hj)⟩)
      rcases e2 with e2 | e2
      · obtain ⟨i, p, k', hp, hk', e3⟩ := memL_of e2
        injection e3 with e4 e5
        injection e4 with e4
        obtain ⟨k2, hk2, _, _, _, _, tpk, _⟩ := mr6.get i p hp
        rw [hk'] at hk2
        have : k' = k2 := Option.some.inj hk2
        subst this
        exact ⟨p.2.1, k', by rw [e1, e5], List.mem_of_getElem? hk', (Int.ofNat.inj e4).symm, tpk⟩
      · exact nomatch e2
    clear mr0 mr3 mr5 vc vc3 vc5 t6 s6 s4 sm s2 s1 tt god gfo gD gD3 gD5 gc gc3 gc5 gm mr6
    refine ⟨fun m σ G => ∃ (ord : List Nat) (rows : List (List (Option Nat))) (vs : List V) (y6 y9 y10 : Option V), m = 218 - rows.length ∧ σ = [some (.ref a), some (.str z), some (.ref D0), some (.ref Dc), some (.ref od), some (.ref fo), y6, some (.ref Dm), some (.int (rows.length : Int)), y9, y10] ∧ G od = some (.lst (ord.map fun c : Nat => V.int (c : Int))) ∧ G fo = some (.lst vs) ∧ IsRows K G vs rows ∧ (∀ b o, b ≠ od → b ≠ fo → H6 b = some o → G b = some o) ∧ rows.length ≤ ord.length ∧ (Qs = [] → ord = []) ∧ (Qs ≠ [] → BI ps (tl z) Qs f ord rows [] ∧ ord[0]? = (Qs.map f)[0]?), ⟨_, (Qs.take (min Qs.length 1)).map f, [], [], _, none, none, rfl, rfl, gO, gfo6, .nil, fun _ _ _ _ e => e, Nat.zero_le _, fun e => by rw [e]; rfl, fun ne => ?_⟩, ?_⟩
    · cases Qs with
      | nil => exact absurd rfl ne
      | cons q r =>
        have e : min (q :: r).length 1 = 1 := by rw [List.length_cons]; omega
        rw [e]
        exact ⟨BI.start List.mem_cons_self, rfl⟩
    rintro m σ G ⟨ord, rows, vs, y6, y9, y10, hm, rfl, gO', gF, ir, bt, le, e0, e1⟩
    refine ⟨.int (rows.length : Int), rfl, .ref od, rfl, od, _, rfl, .inl (SqL.of gO'), _, _, rfl, rfl, _, rfl, ?_⟩
    rw [List.length_map]
    have smG : Same H G := fun b o e => bt b o (ne_of_none e nodH) (ne_of_none e nfoH) (sH6 b o e)
    by_cases lt : rows.length < ord.length
    case neg =>
      rw [decide_eq_false (by omega)]
      refine iteF ⟨.ref fo, rfl, kk G fo vs rows smG gF ir (fun pe => ?_) fun pe => ?_⟩
      · have := e0 (q0 pe)
        rw [this] at le
        exact List.length_eq_zero_iff.mp (Nat.le_zero.mp le)
      · have h0 := q1 pe
        have ne : Qs ≠ [] := fun z => by rw [z] at h0; cases h0
        obtain ⟨B, hd⟩ := e1 ne
        rw [List.getElem?_map, h0] at hd
        exact ⟨_, _, B.auP ok cl ff (by omega) hd (List.mem_of_getElem? h0)⟩
    rw [decide_eq_true (by omega)]
    have ne : Qs ≠ [] := fun z => by rw [e0 z] at lt; exact absurd lt (Nat.not_lt_zero _)
    obtain ⟨B, hd⟩ := e1 ne
    have few := B.few f217
    refine iteT ⟨fun σ G => ∃ (ord : List Nat) (rows' : List (List (Option Nat))) (vs : List V) (y6 y9 y10 : Option V), rows.length < rows'.length ∧ rows'.length ≤ 217 ∧ σ = [some (.ref a), some (.str z), some (.ref D0), some (.ref Dc), some (.ref od), some (.ref fo), y6, some (.ref Dm), some (.int (rows'.length : Int)), y9, y10] ∧ G od = some (.lst (ord.map fun c : Nat => V.int (c : Int))) ∧ G fo = some (.lst vs) ∧ IsRows K G vs rows' ∧ (∀ b o, b ≠ od → b ≠ fo → H6 b = some o → G b = some o) ∧ rows'.length ≤ ord.length ∧ (Qs = [] → ord = []) ∧ (Qs ≠ [] → BI ps (tl z) Qs f ord rows' [] ∧ ord[0]? = (Qs.map f)[0]?), ?_, ?_⟩
    · rintro σ' G' ⟨ord', rows', vs', y6', y9', y10', l1, l2, h1, h2, h3, h4, h5, h6, h7, h8⟩
      exact ⟨_, by omega, ord', rows', vs', y6', y9', y10', rfl, h1, h2, h3, h4, h5, h6, h7, h8⟩
    refine ⟨by show 0 ≤ sizeLine; decide, fun ro hro => ?_⟩
    have sr := same_upd (o := .lst []) hro
    have gro : (upd G ro (.lst [])) ro = some (.lst []) := upd_same
    have nro : H6 ro = none := by
      cases q : H6 ro with
      | none => rfl
      | some o =>
        by_cases x1 : ro = od
        · rw [x1, gO'] at hro
          cases hro
        · by_cases x2 : ro = fo
          · rw [x2, gF] at hro
            cases hro
          · rw [bt _ _ x1 x2 q] at hro
            cases hro
    have nrod : ro ≠ od := (ne_of_none gO' hro).symm
    have nrfo : ro ≠ fo := (ne_of_none gF hro).symm
    have gO1 := sr _ _ gO'
    have gF1 := sr _ _ gF
    have ir1 := ir.mono (same_tup sr)
    have bt1 : ∀ b o, b ≠ od → b ≠ fo → H6 b = some o → (upd G ro (.lst [])) b = some o := fun b o h1 h2 e => sr _ _ (bt b o h1 h2 e)
    generalize upd G ro (.lst []) = G1 at gro gO1 gF1 ir1 bt1 ⊢
    clear sr hro gO' gF ir bt
    try dsimp only [gName, List.set]
    obtain ⟨k0, mk0, ek0⟩ := B.rep ord[rows.length] (List.getElem_mem lt)
    obtain ⟨b, kR, ev, mkR, efR, tb⟩ := memb k0 mk0
    obtain ⟨l, ws, el, gl, nlo, nlf, bw⟩ := lne kR mkR
    have btT : ∀ b xs, SqT K H6 b xs → SqT K G1 b xs := fun b xs h => by
      rcases h with (h | ⟨u, h⟩) | h
      · exact .inl (.inl (bt1 _ _ (fun e => by rw [e, gO] at h; cases h) (fun e => by rw [e, gfo6] at h; cases h) h))
      · exact .inl (.inr ⟨u, bt1 _ _ (fun e => by rw [e, gO] at h; cases h) (fun e => by rw [e, gfo6] at h; cases h) h⟩)
      · exact .inr h
    have gl1 := bt1 _ _ nlo nlf gl
    refine ⟨.ref D0, rfl, .ref Dm, rfl, .ref od, rfl, .int (rows.length : Int), rfl, od, _, _, .int ((f k0 : Nat) : Int), rfl, rfl, SqL.of gO1, atI_nat (by rw [List.getElem?_map, List.getElem?_eq_getElem lt, ← ek0]; rfl), Dm, .ref b, rfl, .inl ⟨_, .inl (f k0 : Int), .inl (bt1 _ _ (Ne.symm nodm) (Ne.symm nfom) gm6), rfl, ev.symm⟩, D0, b, kvs, plKey kR, .ref l, rfl, rfl, ⟨.inl (bt1 _ _ (Ne.symm nod5) (Ne.symm nfoD) gD6), oks6.mono btT, pl_nk (btT _ _ tb), plKey_depth _⟩, el, l, rfl, ⟨_, SqL.of gl1⟩, ?_⟩
    have few0 : rows.length < 217 := by omega
    have keyT : ∀ {k' : Pl} {N : Hp} {t' : Addr}, k' ∈ Qs → (∀ b o, b ≠ od → b ≠ fo → H6 b = some o → N b = some o) → SqT K H6 t' (k'.map oV) → N Dc = some (DO P w Dc kvc) ∧ KOks K N kvc ∧ NK K N (plKey k') (.ref t') ∧ valN kvc (plKey k') = some (V.int (f k' : Int)) := fun {k' N t'} mk' bt ht => by
      have btT : ∀ b xs, SqT K H6 b xs → SqT K N b xs := fun b xs h => by
        rcases h with (h | ⟨u, h⟩) | h
        · exact .inl (.inl (bt _ _ (fun e => by rw [e, gO] at h; cases h) (fun e => by rw [e, gfo6] at h; cases h) h))
        · exact .inl (.inr ⟨u, bt _ _ (fun e => by rw [e, gO] at h; cases h) (fun e => by rw [e, gfo6] at h; cases h) h⟩)
        · exact .inr h
      exact ⟨bt _ _ (Ne.symm nodc) (Ne.symm nfoc) gc6, okc6.mono btT, pl_nk (btT _ _ ht), (vc6.val k').2 mk'⟩
    have nrl : l ≠ ro := (ne_of_none gl nro)
    have nof' : fo ≠ od := Ne.symm nof
    refine for_it (walk_list (xs := ws)) (fun j σ N => ∃ (ox : List Nat) (row : List (Option Nat)) (y10 : Option V), σ = [some (.ref a), some (.str z), some (.ref D0), some (.ref Dc), some (.ref od), some (.ref fo), y6, some (.ref Dm), some (.int (rows.length : Int)), some (.ref ro), y10] ∧ N od = some (.lst ((ord ++ ox).map fun c : Nat => V.int (c : Int))) ∧ N ro = some (.lst (row.map oV)) ∧ BI ps (tl z) Qs f (ord ++ ox) rows row ∧ RowB ps f (ord ++ ox) kR ((tl z).take j) row ∧ (∀ b o, b ≠ od → b ≠ ro → G1 b = some o → N b = some o)) ⟨[], [], y10, rfl, by rw [List.append_nil]; exact gO1, gro, by rw [List.append_nil]; exact B, ⟨rfl, fun j c h => by rw [List.take_zero] at h; cases h⟩, fun _ _ _ _ e => e⟩ (fun _ _ _ _ ⟨_, _, _, _, _, _, _, _, bt⟩ => SqL.of (bt _ _ nlo nrl gl1)) ?_ ?_
    · rintro j v' σ N N' hj ⟨ox, row, y10', rfl, gO', gR, B', R', bt⟩ ⟨rfl, hv⟩
      have hj2 : j < ((tl z).map (stepP ps kR)).length := by rw [← bw.1]; exact hj
      have hj3 : j < (tl z).length := by rw [List.length_map] at hj2; exact hj2
      have hc : (tl z)[j]? = some (tl z)[j] := List.getElem?_eq_getElem hj3
      have ho : ((tl z).map (stepP ps kR))[j]? = some (stepP ps kR (tl z)[j]) := by rw [List.getElem?_map, hc]; rfl
      have bvj := bw.2 j v' _ hv ho
      have tkj : (tl z).take (j + 1) = (tl z).take j ++ [(tl z)[j]] := by rw [List.take_add_one, hc]; rfl
      have few' := B'.few f217
      have lrow := R'.1
      rw [List.length_take] at lrow
      have bt6 : ∀ b o, b ≠ od → b ≠ fo → H6 b = some o → N' b = some o := fun b o h1 h2 e => bt _ _ h1 (ne_of_none e nro) (bt1 _ _ h1 h2 e)
      cases q : stepP ps kR (tl z)[j] with
      | none =>
        rw [q] at bvj
        have ev' : v' = .non := bvj
        subst ev'
        refine ⟨fun σ G => σ = [some (.ref a), some (.str z), some (.ref D0), some (.ref Dc), some (.ref od), some (.ref fo), y6, some (.ref Dm), some (.int (rows.length : Int)), some (.ref ro), some .non] ∧ G = N', ?_, ?_⟩
        · exact ⟨.non, rfl, rfl, _, rfl, iteF (iteF ⟨rfl, rfl⟩)⟩
        rintro σ G ⟨rfl, rfl⟩
        refine ⟨.ref ro, rfl, .inl ⟨rfl, _, SqL.of gR⟩, .non, rfl, rfl, _, rfl, iteT ⟨ro, _, .non, rfl, rfl, gR, by rw [List.length_map]; omega, ox, row ++ [none], _, rfl, (upd_ne nrod.symm).trans gO', by rw [List.map_append]; exact upd_same, B'.none, by rw [tkj]; exact R'.snoc (.inl ⟨rfl, q⟩), fun b o h1 h2 e => (upd_ne h2).trans (bt b o h1 h2 e)⟩⟩
      | some k' =>
        rw [q] at bvj
        obtain ⟨t', rfl, ht6⟩ := bvj
        have mk' : k' ∈ Qs := cl.2 kR mkR _ (List.mem_of_getElem? hc) k' q
        obtain ⟨g1, g2, g3, g4⟩ := keyT mk' bt6 ht6
        refine ⟨fun σ G => ∃ (ox : List Nat), σ = [some (.ref a), some (.str z), some (.ref D0), some (.ref Dc), some (.ref od), some (.ref fo), y6, some (.ref Dm), some (.int (rows.length : Int)), some (.ref ro), some (.ref t')] ∧ G od = some (.lst ((ord ++ ox).map fun c : Nat => V.int (c : Int))) ∧ G ro = some (.lst (row.map oV)) ∧ f k' ∈ ord ++ ox ∧ (∀ i, (ord ++ ox)[i]? = some (f k') → BI ps (tl z) Qs f (ord ++ ox) rows (row ++ [some i])) ∧ RowB ps f (ord ++ ox) kR ((tl z).take j) row ∧ (∀ b o, b ≠ od → b ≠ ro → G1 b = some o → G b = some o), ?_, ?_⟩
        · refine ⟨.ref t', rfl, rfl, _, rfl, iteT ⟨.ref Dc, rfl, .ref t', rfl, Dc, t', kvc, plKey k', .int (f k' : Int), rfl, rfl, ⟨.inl g1, g2, g3, plKey_depth _⟩, g4, .ref od, rfl, od, _, rfl, .inl (SqL.of gO'), rfl, ints_flat _, ?_⟩⟩
          rw [ints_in]
          refine ⟨_, rfl, ?_⟩
          by_cases mem : f k' ∈ ord ++ ox
          · rw [decide_eq_true mem]
            exact iteF ⟨ox, rfl, gO', gR, mem, fun i hi => B'.old (List.getElem?_eq_some_iff.mp hi).1, R', bt⟩
          · rw [decide_eq_false mem]
            refine iteT ⟨.ref od, rfl, .inl ⟨rfl, _, SqL.of gO'⟩, .ref Dc, rfl, .ref t', rfl, Dc, t', kvc, plKey k', .int (f k' : Int), rfl, rfl, ⟨.inl g1, g2, g3, plKey_depth _⟩, g4, od, _, .int (f k' : Int), rfl, rfl, gO', by rw [List.length_map]; omega, ox ++ [f k'], rfl, ?_, (upd_ne nrod).trans gR, ?_, fun i hi => ?_, ?_, fun b o h1 h2 e => (upd_ne h1).trans (bt b o h1 h2 e)⟩
            · have e : (ord ++ (ox ++ [f k'])).map (fun c : Nat => V.int (c : Int)) = (ord ++ ox).map (fun c : Nat => V.int (c : Int)) ++ [V.int (f k' : Int)] := by
                rw [← List.append_assoc, List.map_append (l₂ := [f k'])]
                rfl
              rw [e]
              exact upd_same
            · rw [← List.append_assoc]
              exact List.mem_append_right _ (List.mem_singleton.mpr rfl)
            · rw [← List.append_assoc] at hi ⊢
              have Bn := B'.new mk' mem
              have pw := Bn.nd
              have : i = (ord ++ ox).length := by
                rcases Nat.lt_or_ge i (ord ++ ox).length with lt1 | ge1
                · rw [List.getElem?_append_left lt1] at hi
                  exact absurd (List.mem_of_getElem? hi) mem
                · have := (List.getElem?_eq_some_iff.mp hi).1
                  rw [List.length_append] at this
                  have : i < (ord ++ ox).length + 1 := this
                  omega
              rw [this]
              exact Bn
            · rw [← List.append_assoc]
              exact R'.more _
        rintro σ G ⟨ox, rfl, gO', gR, mem, B', R', bt⟩
        have bt6 : ∀ b o, b ≠ od → b ≠ fo → H6 b = some o → G b = some o := fun b o h1 h2 e => bt _ _ h1 (ne_of_none e nro) (bt1 _ _ h1 h2 e)
        obtain ⟨g1, g2, g3, g4⟩ := keyT mk' bt6 ht6
        obtain ⟨i, hi, least⟩ := first_nat mem
        refine ⟨.ref ro, rfl, .inl ⟨rfl, _, SqL.of gR⟩, .ref t', rfl, rfl, _, rfl, iteF ⟨.ref od, rfl, .inl ⟨rfl, _, SqL.of gO'⟩, .ref Dc, rfl, .ref t', rfl, Dc, t', kvc, plKey k', .int (f k' : Int), rfl, rfl, ⟨.inl g1, g2, g3, plKey_depth _⟩, g4, od, _, .int (f k' : Int), i, .int (f k' : Int), rfl, rfl, SqL.of gO', rfl, ints_flat _, by rw [List.getElem?_map, hi]; rfl, beq_self_eq_true (f k' : Int), ints_idx least, ro, _, .int (i : Int), rfl, rfl, gR, by rw [List.length_map]; omega, ox, row ++ [some i], _, rfl, (upd_ne nrod.symm).trans gO', by rw [List.map_append]; exact upd_same, B' i hi, by rw [tkj]; exact R'.snoc (.inr ⟨k', i, q, hi, rfl⟩), fun b o h1 h2 e => (upd_ne h2).trans (bt b o h1 h2 e)⟩⟩
    rintro σ N ⟨ox, row, y10', rfl, gO', gR, B', R', bt⟩
    have lw : ws.length = (tl z).length := by rw [bw.1, List.length_map]
    rw [lw, List.take_length] at R'
    have gF2 := bt _ _ nof' nrfo.symm gF1
    have lvs := ir1.len
    have few' := B'.few f217
    have tN : ∀ b xs, SqT K G1 b xs → SqT K N b xs := fun b xs h => by
      rcases h with (h | ⟨u, h⟩) | h
      · exact .inl (.inl (bt _ _ (fun e => by rw [e, gO1] at h; cases h) (fun e => by rw [e, gro] at h; cases h) h))
      · exact .inl (.inr ⟨u, bt _ _ (fun e => by rw [e, gO1] at h; cases h) (fun e => by rw [e, gro] at h; cases h) h⟩)
      · exact .inr h
    refine ⟨.ref fo, rfl, .inl ⟨rfl, _, SqL.of gF2⟩, .ref ro, rfl, ro, _, rfl, .inl ⟨SqL.of gR, fun tp htp => ?_⟩⟩
    have st := same_upd (o := .tup (row.map oV)) htp
    have gtp : (upd N tp (.tup (row.map oV))) tp = some (.tup (row.map oV)) := upd_same
    have gF3 := st _ _ gF2
    have gO3 := st _ _ gO'
    have ir3 := (ir1.mono tN).mono (same_tup st)
    have bt3 : ∀ b o, b ≠ od → b ≠ ro → G1 b = some o → (upd N tp (.tup (row.map oV))) b = some o := fun b o h1 h2 e => st _ _ (bt b o h1 h2 e)
    generalize upd N tp (.tup (row.map oV)) = N2 at gtp gF3 gO3 ir3 bt3 ⊢
    refine ⟨fo, _, .ref tp, rfl, rfl, gF3, by omega, .int (rows.length : Int), rfl, _, _, rfl, rfl, ord ++ ox, rows ++ [row], vs ++ [.ref tp], y6, some (.ref ro), y10', by rw [List.length_append]; exact Nat.lt_succ_self _, by rw [List.length_append]; show rows.length + 1 ≤ 217; omega, ?_, (upd_ne nof).trans gO3, upd_same, ?_, fun b o h1 h2 e => (upd_ne h2).trans (bt3 b o h1 (ne_of_none e nro) (bt1 b o h1 h2 e)), by rw [List.length_append, List.length_append]; show rows.length + 1 ≤ _; omega, fun e => absurd e ne, fun _ => ⟨B'.row mkR ?_ R' ?_, ?_⟩⟩
    · rw [List.length_append]
      rfl
    · exact IsRows.snoc (ir3.mono (upd_tup gF3)) (upd_tup gF3 _ _ (SqT.of gtp))
    · rw [List.getElem?_append_left lt, List.getElem?_eq_getElem lt, efR, ek0]
    · have := B.seen.eq
      rw [List.append_nil] at this
      rw [← this]
      exact lt
    · rw [List.getElem?_append_left (by omega)]
      exact hd
end
end DW
/-! k43: the law -/
namespace DW
open PySem PySem.Spec PyProof.Rows L2 TL
set_option autoImplicit false
theorem IsRows.dp {K : PySem.W.Frag} {H : Hp} : ∀ {vs : List V} {rows : List (List (Option Nat))}, IsRows K H vs rows → DpAll K H vs (rows.map plD)
  | _, _, .nil => .nil
  | _, _, .cons h r => .cons (plD_dp h) r.dp
theorem rowsD_ok : ∀ rows : List (List (Option Nat)), (∀ r ∈ rows, r.length ≤ 3 ∧ ∀ o ∈ r, LowO o) → PyData.showableAll (rows.map plD) = true ∧ PyData.hasDictAll (rows.map plD) = false ∧ PyData.leavesShortAll 2000 (rows.map plD) = true ∧ PyData.bulkAll (rows.map plD) ≤ 5 * rows.length
  | [], _ => ⟨rfl, rfl, rfl, Nat.le_refl _⟩
  | r :: rows, h => by
    obtain ⟨h1, h2, h3, h4⟩ := rowsD_ok rows fun x hx => h x (List.mem_cons_of_mem _ hx)
    obtain ⟨l, lo⟩ := h r List.mem_cons_self
    obtain ⟨g1, g2, g3, g4⟩ := keyD_ok r lo
    rw [List.map_cons]
    refine ⟨?_, ?_, ?_, ?_⟩
    · simp only [plD, PyData.showableAll, PyData.showable, h1, g1, Bool.and_self]
    · simp only [plD, PyData.hasDictAll, PyData.hasDict, h2, g2, Bool.or_self]
    · simp only [plD, PyData.leavesShortAll, PyData.leavesShort, h3, g3, Bool.and_self]
    · simp only [plD, PyData.bulkAll, PyData.bulk, List.length_cons]
      omega
theorem rowsD_show {rows : List (List (Option Nat))} (h : ∀ r ∈ rows, r.length ≤ 3 ∧ ∀ o ∈ r, LowO o) (l : rows.length ≤ 300) : (PyData.list (rows.map plD)).showable = true ∧ (PyData.list (rows.map plD)).hasDict = false ∧ (PyData.list (rows.map plD)).depth ≤ 64 ∧ (PyData.list (rows.map plD)).shown.length ≤ sizeLine := by
  obtain ⟨h1, h2, h3, h4⟩ := rowsD_ok rows h
  obtain ⟨_, g2⟩ := plDs_lay rows
  refine ⟨by simp only [PyData.showable, h1], by simp only [PyData.hasDict, h2], by simp only [PyData.depth]; omega, ?_⟩
  have := PyData.shown_le_bulk 2000 (by decide) (PyData.list (rows.map plD)) (by simp only [PyData.leavesShort, h3])
  have e : (PyData.list (rows.map plD)).bulk ≤ 5 * rows.length + 1 := by
    simp only [PyData.bulk]
    omega
  have m : 2000 * (PyData.list (rows.map plD)).bulk ≤ 2000 * 1501 := Nat.mul_le_mul_left _ (by omega)
  rw [sizeLine_eq]
  omega
theorem AuP.low {cs : List Nat} {L0 : List Nat → Prop} {n : Nat} {T : Nat → List Nat → Prop} {rows : List (List (Option Nat))} (A : AuP cs L0 n T rows) (c3 : cs.length ≤ 3) (n300 : n ≤ 300) : ∀ r ∈ rows, r.length ≤ 3 ∧ ∀ o ∈ r, LowO o := fun r hr => by
  obtain ⟨i, hi⟩ := List.getElem?_of_mem hr
  have w := A.wide i r hi
  refine ⟨by omega, fun o ho m e => ?_⟩
  obtain ⟨j, hj⟩ := List.getElem?_of_mem ho
  have jl : j < cs.length := by
    rw [← w]
    exact (List.getElem?_eq_some_iff.mp hj).1
  rw [e] at hj
  rcases A.nx i r hi j _ (List.getElem?_eq_getElem jl) with ⟨h1, _⟩ | ⟨k, h1, h2, _⟩
  · rw [hj] at h1
    cases h1
  · rw [hj] at h1
    have := Option.some.inj (Option.some.inj h1)
    omega
section
variable {P : Program} {w : World} {K : PySem.W.Frag} {mg : Str → Option Value} {base : Heap}
structure Ds (K : PySem.W.Frag) (mg : Str → Option Value) where
  p__wall : Df K mg "_wall" sWall ["k"]
  p_is_ascending : Df K mg "is_ascending" sIsAscending ["letters"]
  p_is_alphabet : Df K mg "is_alphabet" sIsAlphabet ["thing"]
  p_is_word : Df K mg "is_word" sIsWord ["alphabet", "thing"]
  p_is_factor : Df K mg "is_factor" sIsFactor ["alphabet", "thing"]
  p_is_product : Df K mg "is_product" sIsProduct ["alphabet", "thing"]
  p_format_factor : Df K mg "format_factor" sFormatFactor ["factor"]
  p_format_product : Df K mg "format_product" sFormatProduct ["product"]
  p_letters_of : Df K mg "letters_of" sLettersOf ["factors"]
  p_swallows : Df K mg "swallows" sSwallows ["factor", "other"]
  p_covers : Df K mg "covers" sCovers ["factor", "other"]
  p_reduce_product : Df K mg "reduce_product" sReduceProduct ["product"]
  p_behind : Df K mg "behind" sBehind ["product", "place"]
  p_place_behind : Df K mg "place_behind" sPlaceBehind ["product", "other", "start"]
  p_is_included : Df K mg "is_included" sIsIncluded ["product", "other"]
  p_subwords_product : Df K mg "subwords_product" sSubwordsProduct ["word"]
  p_is_inside : Df K mg "is_inside" sIsInside ["product", "products"]
  p_size_of_product : Df K mg "size_of_product" sSizeOfProduct ["product"]
  p_by_written_form : Df K mg "by_written_form" sByWrittenForm ["products"]
  p_maximal_products : Df K mg "maximal_products" sMaximalProducts ["products"]
  p_format_products : Df K mg "format_products" sFormatProducts ["products"]
  p_language_of_maximal : Df K mg "language_of_maximal" sLanguageOfMaximal ["alphabet", "products"]
  p_number_of_factors : Df K mg "number_of_factors" sNumberOfFactors ["language"]
  p_check_factors : Df K mg "check_factors" sCheckFactors ["language", "limit"]
  p_rests_behind : Df K mg "rests_behind" sRestsBehind ["product", "language"]
  p_derivative : Df K mg "derivative" sDerivative ["language", "word"]
  p_automaton : Df K mg "automaton" sAutomaton ["language"]
  begin : Df K mg "_law_begin" sBegin ["_law_script"]
  draw : Df K mg "_law_draw" sDraw ["_law_tape", "_law_many"]
  pick : Df K mg "_law_pick" sPick ["_law_tape", "_law_items"]
  alphabet : Df K mg "_law_alphabet" sAlpha ["_law_tape"]
  factor : Df K mg "_law_factor" sFactor ["_law_tape", "_law_alphabet_here"]
  product : Df K mg "_law_product" sProduct ["_law_tape", "_law_alphabet_here", "_law_longest"]
  products : Df K mg "_law_products" sLProducts ["_law_tape", "_law_alphabet_here", "_law_many", "_law_longest"]
  place_behind : Df K mg "_law_place_behind" sLPlaceBehind ["_law_product_here", "_law_place", "_law_letter"]
  places_behind : Df K mg "_law_places_behind" sLPlacesBehind ["_law_products_here", "_law_places", "_law_letter"]
  start : Df K mg "_law_start" sLStart ["_law_products_here"]
  machine : Df K mg "_law_machine" sLMachine ["_law_products_here", "_law_alphabet_here"]
  classes : Df K mg "_law_classes" sLClasses ["_law_rows"]
  smallest : Df K mg "_law_smallest" sLSmallest ["_law_products_here", "_law_alphabet_here"]
  B : Bl mg
  b_all : mg "all" = none
  b_zip : mg "zip" = none
  b_isinstance : mg "isinstance" = none
  b_str : mg "str" = none
  b_tuple : mg "tuple" = none
  b_reversed : mg "reversed" = none
  b_list : mg "list" = none
  b_sum : mg "sum" = none
  b_int : mg "int" = none
  b_dict : mg "dict" = none
  b_repr : mg "repr" = none
  b_enumerate : mg "enumerate" = none
  c_MOST_LETTERS : ∃ t, mg "MOST_LETTERS" = some (.int 3 t)
  c_COUNTING_LIMIT : ∃ t, mg "COUNTING_LIMIT" = some (.int 24 t)
  c_EMPTY_FORM : ∃ t, mg "EMPTY_FORM" = some (.str "-" t)
  c_NO_WORDS : ∃ t, mg "NO_WORDS" = some (.str "none" t)
  cla : DfC2 K mg
def spLaw (K : PySem.W.Frag) : Sp := fun vs H Q _ => ∃ (a : Addr) (ns : List Int), vs = [.ref a] ∧ SqL K H a (ns.map V.int) ∧ ∀ H', Q (.bl true) H'
theorem scLaw : FnScope ["_law_script", "_law_tape", "_law_turn", "_law_alphabet_here", "_law_products_here", "_law_language", "_law_due", "_law_again", "_law_told"] ["_law_script"] (defScope sLaw) := ⟨rfl, rfl, rfl, by decide +kernel, rfl, by decide +kernel, by decide +kernel⟩
theorem ok_law (D : Df K mg "law" sLaw ["_law_script"]) (S : Ds K mg) : GA.FnAt P w K mg base D.f D.fd ["_law_script"] (spLaw K) := by
  let L : DfLa K mg := ⟨S.cla.toDfC, S.p_is_alphabet, ⟨S.p_is_product, S.p_is_factor, S.p_is_word, S.p_is_ascending, S.b_all, S.b_zip, S.b_isinstance, S.b_str, S.b_tuple, S.B.len⟩, ⟨S.p_maximal_products, S.p_reduce_product, S.p_size_of_product, S.p_is_inside, ⟨S.p_is_included, S.p_place_behind, S.p_behind, S.p_covers, S.p_swallows⟩, ⟨S.p_by_written_form, S.p_format_product, S.p_format_factor, S.B.len, S.c_EMPTY_FORM, S.B.sorted⟩, S.b_all, S.b_tuple, S.b_reversed, S.B.range, S.c_MOST_LETTERS⟩, S.p_subwords_product, S.b_enumerate, S.b_list⟩
  have Gb : FnOk P w K mg base CX0 1 S.begin.f S.begin.fd ["_law_script"] (spBegin K) := ok_begin S.begin
  have Gp : FnOk P w K mg base CX0 2 S.pick.f S.pick.fd ["_law_tape", "_law_items"] (spPick K) := ok_pick S.pick S.draw S.B.len
  have Ga : FnOk P w K mg base CX0 3 S.alphabet.f S.alphabet.fd ["_law_tape"] spAlpha := ok_alpha S.alphabet S.draw S.pick S.B
  have Gl : FnOk P w K mg base CX0 5 S.products.f S.products.fd ["_law_tape", "_law_alphabet_here", "_law_many", "_law_longest"] (spProds K) := ok_prods S.products S.product S.factor S.draw S.pick S.B S.b_tuple
  have GI : FnOk P w K mg base CX0 7 L.i.f L.i.fd ["self", "alphabet", "products"] (spLi K L.C) := ok_li L
  have Gau : FnOk P w K mg base CX0 11 S.p_automaton.f S.p_automaton.fd ["language"] (spAut K L.C) := ok_aut ⟨S.p_automaton, S.p_check_factors, S.p_number_of_factors, S.p_derivative, S.p_language_of_maximal, S.p_rests_behind, L, S.cla, rfl, ⟨S.p_format_products, S.p_format_product, S.p_format_factor, S.B.len, S.c_EMPTY_FORM, S.c_NO_WORDS⟩, S.b_sum, S.c_COUNTING_LIMIT⟩
  have Gs : GA.FnG P w K mg base 4 S.smallest.f S.smallest.fd ["_law_products_here", "_law_alphabet_here"] (spSma K) := ok_sma S.smallest S.machine S.classes ⟨S.start, S.places_behind, S.place_behind, S.B.len, S.B.range, S.b_int, S.b_tuple, S.b_zip⟩ S.b_dict S.b_repr S.B.sorted S.B.set
  refine GA.okAt (k := 12) D.F scLaw ⟨rfl, by decide, by decide⟩ (fun vs H Q E h => ?_) (fun cdv s H vs Q E hr h => ?_)
  · obtain ⟨a, ns, rfl, _⟩ := h
    rfl
  · obtain ⟨a, ns, rfl, hS, k⟩ := h
    have hr1 : Room 1 _ := hr.mono (by decide)
    have hr2 : Room 2 _ := hr.mono (by decide)
    have hr3 : Room 3 _ := hr.mono (by decide)
    have hr4 : Room 4 _ := hr.mono (by decide)
    have hr5 : Room 5 _ := hr.mono (by decide)
    have hr7 : Room (7 + 1) _ := hr.mono (by decide)
    have hr11 : Room 11 _ := hr.mono (by decide)
    have rR : CallR (cxOf CX0 P w K mg base ["_law_script", "_law_tape", "_law_turn", "_law_alphabet_here", "_law_products_here", "_law_language", "_law_due", "_law_again", "_law_told"] "law" (defScope sLaw) D.f cdv callerA [] s H E).nox (.builtin "repr") _ := GA.cr_reprD rfl (by have := hr.un; show (callerA.deeper _).units + 66 < _; omega)
    refine ⟨_, PSs.nox (pss_cons (ps_set (i := 1) scLaw.nd rfl (.inl rfl) (pe_call Gb hr1 (by rfl) S.begin.g S.begin.F.kp S.begin.b .nil pass0 (pa_cons (pv 0) pa_nil))) (pss_cons (ps_for PassesOwn.never rfl (pi_range1 rfl S.B.range (pa_cons pe_int pa_nil)) (pg_name (i := 2) scLaw.nd rfl (.inl rfl)) (pss_cons (ps_set (i := 3) scLaw.nd rfl (.inl rfl) (pe_call Ga hr3 (by rfl) S.alphabet.g S.alphabet.F.kp S.alphabet.b .nil pass0 (pa_cons (pv 1) pa_nil))) (pss_cons (ps_set (i := 4) scLaw.nd rfl (.inl rfl) (pe_call Gl hr5 (by rfl) S.products.g S.products.F.kp S.products.b .nil pass0 (pa_cons (pv 1) (pa_cons (pv 3) (pa_cons pe_int (pa_cons pe_int pa_nil)))))) (C8.pss_cut (ps_if (pt_cmpR op_eq (pv 2) pe_int (nomark _)) (pss_one (ps_set (i := 4) scLaw.nd rfl (.inl rfl) (pe_call Gp hr2 (by rfl) S.pick.g S.pick.F.kp S.pick.b .nil pass0 (pa_cons (pv 1) (pa_cons (pe_lst (pa_cons (pe_lst pa_nil) (pa_cons (pe_lst (pa_cons (pe_tup pa_nil) pa_nil)) (pa_cons (pe_lst (pa_cons (pe_tup (pa_cons (pe_tup (pa_cons pe_str (pa_cons (pv 3) pa_nil))) pa_nil)) pa_nil)) (pa_cons (pe_lst (pa_cons (pe_tup (pa_cons (pe_tup (pa_cons pe_str (pa_cons (pe_ix ix_str (pv 3) pe_int (fun _ _ => rfl)) pa_nil))) pa_nil)) pa_nil)) pa_nil))))) pa_nil))))) pss_nil) (pss_cons (ps_par (i := 5) (j := 6) rfl scLaw.nd rfl rfl (by decide) rfl rfl (pa_cons (pe_make L.mkr GI hr7 (by rfl) L.g L.i.b .nil pass0 (pa_cons (pv 3) (pa_cons (pv 4) pa_nil))) (pa_cons (GA.pe_callG Gs hr4 rfl (by rfl) S.smallest.g S.smallest.F.kp S.smallest.b .nil pass0 (pa_cons (pv 4) (pa_cons (pv 3) pa_nil))) pa_nil)) (by rfl)) (pss_one (ps_for PassesOwn.never rfl (pi_range1 rfl S.B.range (pa_cons pe_int pa_nil)) (pg_name (i := 7) scLaw.nd rfl (.inl rfl)) (pss_cons (ps_set (i := 8) scLaw.nd rfl (.inl rfl) (pe_call Gau hr11 (by rfl) S.p_automaton.g S.p_automaton.F.kp S.p_automaton.b .nil pass0 (pa_cons (pv 5) pa_nil))) (pss_cons (ps_if (pt_cmpR op_ne (pe_callB rR (by rfl) S.b_repr (by decide +kernel) (pa_cons (pv 8) pa_nil)) (pe_callB rR (by rfl) S.b_repr (by decide +kernel) (pa_cons (pv 6) pa_nil)) (nomark _)) (pss_one (ps_ret pe_bl)) pss_nil) (pss_cons (ps_expr (pe_bm PySem.F.plainAttrs_list PySem.F.slot_list_append PySem.F.type_list_append mt_append (pv 8) (pa_cons pe_non pa_nil))) (pss_one (ps_expr (pe_bm0 PySem.F.plainAttrs_list PySem.F.slot_list_reverse PySem.F.type_list_reverse mt_reverse (pv 8)))))))))))))) (pss_one (ps_ret pe_bl)))), ?_⟩
    refine ⟨.ref a, rfl, a, ns, rfl, hS, fun H0 t c s0 ht hc T0 => ?_⟩
    refine ⟨6, rfl, by decide, by decide, for_it walk_range (fun i σ H' => ∃ y2 y3 y4 y5 y6 y7 y8, σ = [some (.ref a), some (.ref t), y2, y3, y4, y5, y6, y7, y8] ∧ Tape H' t c (50000 * i)) ⟨_, _, _, _, _, _, _, rfl, T0⟩ (fun _ _ _ _ _ => trivial) ?_ ?_⟩
    · rintro i x0 σ G G' hi ⟨y2, y3, y4, y5, y6, y7, y8, rfl, T⟩ ⟨rfl, rfl⟩
      refine ⟨.ref t, rfl, t, c, 50000 * i, rfl, T, by omega, fun H1 z k1 T1 al => ?_⟩
      refine ⟨.ref t, rfl, .str z, rfl, t, c, _, z, 3, 4, rfl, T1, by omega, al, by decide, by decide, by decide, by decide, fun H2 p1 us1 ps1 k2 T2 n2 g2 i2 ok2 l2 => ?_⟩
      try dsimp only [gName, List.set]
      have okz : FOk z (true, z) := ⟨alph_ne al, List.Sublist.refl _, fun e => by cases e⟩
      refine ⟨fun σ H' => ∃ (p : Addr) (us : List V) (ps : List (List Fc)), σ = [some (.ref a), some (.ref t), some (.int (0 + (i : Int))), some (.str z), some (.ref p), y5, y6, y7, y8] ∧ Tape H' t c (50000 * i + 30000) ∧ H' p = some (.lst us) ∧ IsL K H' us ps ∧ (∀ q ∈ ps, (∀ f ∈ q, FOk z f) ∧ q.length ≤ 4) ∧ ps.length ≤ 3, ?_, ?_⟩
      · refine ⟨_, rfl, rfl, _, rfl, ite2 (fun e => ?_) (fun e => ?_)⟩
        · obtain ⟨c0, rz, ez⟩ : ∃ c0 rz, tl z = c0 :: rz := by
            cases q : tl z with
            | nil => exact absurd q (alph_ne al)
            | cons c0 rz => exact ⟨c0, rz, rfl⟩
          have sz : z.length = (tl z).length := (Array.length_toList).symm
          have ok0 : FOk z (true, (⟨#[c0]⟩ : Str)) := ⟨fun e => (nomatch e), by rw [ez]; exact List.singleton_sublist.mpr List.mem_cons_self, fun e => by cases e⟩
          refine ⟨.ref t, rfl, by show 0 ≤ sizeLine; decide, fun a0 n0 => ⟨by show 0 ≤ sizeLine; decide, fun p1 m1 => ⟨by show 1 ≤ sizeLine; decide, fun a1 n1 => ⟨.str z, rfl, by show 2 ≤ sizeLine; decide, fun f2 w2 => ⟨by show 1 ≤ sizeLine; decide, fun p2 m2 => ⟨by show 1 ≤ sizeLine; decide, fun a2 n2 => ⟨.str z, rfl, z, 0, c0, rfl, rfl, by rw [sz, sizeLine_eq]; have := al.2.2.1; omega, at_cp (j := 0) rfl (by show (tl z)[0]? = _; rw [ez]; rfl), by show 2 ≤ sizeLine; decide, fun f3 w3 => ⟨by show 1 ≤ sizeLine; decide, fun p3 m3 => ⟨by show 1 ≤ sizeLine; decide, fun a3 n3 => ⟨by show 4 ≤ sizeLine; decide, fun pk npk => ?_⟩⟩⟩⟩⟩⟩⟩⟩⟩⟩
          have q9 := same_upd (o := .lst [V.ref a0, V.ref a1, V.ref a2, V.ref a3]) npk
          have q8 := (same_upd (o := .lst [V.ref p3]) n3).trans q9
          have q7 := (same_upd (o := .tup [V.ref f3]) m3).trans q8
          have q6 := (same_upd (o := .tup [V.str "star", .str ⟨#[c0]⟩]) w3).trans q7
          have q5 := (same_upd (o := .lst [V.ref p2]) n2).trans q6
          have q4 := (same_upd (o := .tup [V.ref f2]) m2).trans q5
          have q3 := (same_upd (o := .tup [V.str "star", .str z]) w2).trans q4
          have q2 := (same_upd (o := .lst [V.ref p1]) n1).trans q3
          have q1 := (same_upd (o := .tup []) m1).trans q2
          have q0 := (same_upd (o := .lst []) n0).trans q1
          refine ⟨t, c, _, .ref pk, rfl, T2.same q0, by omega, .inl ⟨pk, _, rfl, SqL.of upd_same, by simp, by show 4 < 2 ^ 30; decide, fun M0 y k0 Tk hy => ?_⟩⟩
          have b0 := k0.at (q1 _ _ upd_same) (fun _ z => by cases z)
          have b1 := k0.at (q3 _ _ upd_same) (fun _ z => by cases z)
          have b2 := k0.at (q6 _ _ upd_same) (fun _ z => by cases z)
          have b3 := k0.at (q9 _ _ upd_same) (fun _ z => by cases z)
          have c1 := k0.at (q2 _ _ upd_same) (fun _ z => by cases z)
          have c2 := k0.at (q5 _ _ upd_same) (fun _ z => by cases z)
          have c3 := k0.at (q8 _ _ upd_same) (fun _ z => by cases z)
          have d2 := k0.at (q4 _ _ upd_same) (fun _ z => by cases z)
          have d3 := k0.at (q7 _ _ upd_same) (fun _ z => by cases z)
          simp only [List.mem_cons, List.not_mem_nil, or_false] at hy
          have Tk := Tk.mono (m := 50000 * i + 30000) (by omega)
          rcases hy with rfl | rfl | rfl | rfl
          · exact ⟨a0, [], [], rfl, Tk, b0, .nil, fun q hq => (nomatch hq), Nat.zero_le _⟩
          · exact ⟨a1, _, [[]], rfl, Tk, b1, .cons ⟨p1, [], rfl, SqT.of c1, .nil⟩ .nil, fun q hq => by rw [List.mem_singleton.mp hq]; exact ⟨fun f hf => (nomatch hf), Nat.zero_le _⟩, by decide⟩
          · exact ⟨a2, _, [[(true, z)]], rfl, Tk, b2, .cons ⟨p2, _, rfl, SqT.of c2, .cons ⟨f2, rfl, SqT.of d2⟩ .nil⟩ .nil, fun q hq => by rw [List.mem_singleton.mp hq]; exact ⟨fun f hf => by rw [List.mem_singleton.mp hf]; exact okz, by show 1 ≤ 4; decide⟩, by show 1 ≤ 3; decide⟩
          · exact ⟨a3, _, [[(true, (⟨#[c0]⟩ : Str))]], rfl, Tk, b3, .cons ⟨p3, _, rfl, SqT.of c3, .cons ⟨f3, rfl, SqT.of d3⟩ .nil⟩ .nil, fun q hq => by rw [List.mem_singleton.mp hq]; exact ⟨fun f hf => by rw [List.mem_singleton.mp hf]; exact ok0, by show 1 ≤ 4; decide⟩, by show 1 ≤ 3; decide⟩
        · exact ⟨p1, us1, ps1, rfl, T2.mono (by omega), g2, i2, fun q hq => ⟨(ok2 q hq).1, by have := (ok2 q hq).2; omega⟩, by omega⟩
      clear ok2 i2 g2 n2 T2 k2 l2
      rintro σ H2 ⟨p1, us1, ps1, rfl, T2, g2, i2, ok2, l2⟩
      have ok1 : ∀ p ∈ ps1, ∀ f ∈ p, FOk z f := fun p hp => (ok2 p hp).1
      have le1 : ∀ p ∈ ps1, p.length ≤ 4 := fun p hp => (ok2 p hp).2
      have pn : prodN ps1 ≤ 216 := Nat.le_trans (prodN_le le1) (Nat.le_trans (Nat.pow_le_pow_right (by decide) l2) (by decide))
      refine ⟨.str z, rfl, .ref p1, rfl, fun x dx hx hdx nxd => ?_⟩
      have sX : Same H2 (upd (upd H2 dx (.own x)) x (.ins L.C dx [])) := fun b o e => (upd_ne (ne_of_none e hx)).trans ((upd_ne (ne_of_none e hdx)).trans e)
      refine ⟨x, dx, p1, z, us1, ps1, rfl, upd_same, sX _ _ g2, i2.mono (same_tup sX), al, by omega, fun p hp => ⟨by have := le1 p hp; omega, ok1 p hp⟩, fun H4 zs kp1 La mo _ => ⟨rfl, ?_⟩⟩
      have s4 : Same H2 H4 := fun b o e => kp1 b o (sX _ _ e) (ne_of_none e hx)
      have g4 := s4 _ _ g2
      have i4 := i2.mono (same_tup s4)
      have T4 := T2.same s4
      have can := mo.can al ok1
      have few := mo.few al ok1
      have shz : ∀ q ∈ zs, q.length ≤ 4 := mo.short le1
      have pz : prodN zs ≤ 216 := Nat.le_trans (prodN_le shz) (Nat.le_trans (Nat.pow_le_pow_right (by decide) (show zs.length ≤ 3 by omega)) (by decide))
      have fz : facN zs ≤ 24 := by
        have := facN_le shz
        have := Nat.mul_le_mul_left 4 (show zs.length ≤ 3 by omega)
        omega
      have hl : HasL zs = HasL ps1 := funext fun u => propext (((hasW_iff can.w1 u).symm.trans (mo.has (fun p hp => fok_w1 (ok1 p hp)) u)).trans Iff.rfl)
      have emp : zs = [] ↔ ps1 = [] := by
        constructor
        · intro e
          cases q : ps1 with
          | nil => rfl
          | cons p r =>
            have := mo.sup p (by rw [q]; exact List.mem_cons_self)
            rw [e] at this
            rcases this with h | ⟨_, h, _⟩ <;> cases h
        · intro e
          rw [e] at few
          exact List.length_eq_zero_iff.mp (Nat.le_zero.mp few)
      refine ⟨.ref p1, rfl, .str z, rfl, p1, us1, ps1, z, rfl, SqL.of g4, i4, al, ok1, by omega, fun p hp => by have := le1 p hp; omega, pn, fun H7 qd vs rows s7 g7 ir e0 e1 => ⟨_, _, rfl, ?_⟩⟩
      try dsimp only [gName, List.set]
      have La7 := La.same s7
      have T7 := T4.same s7
      refine ⟨2, rfl, by decide, by decide, for_it walk_range (fun j σ G => ∃ y7 y8, σ = [some (.ref a), some (.ref t), some (.int (0 + (i : Int))), some (.str z), some (.ref p1), some (.ref x), some (.ref qd), y7, y8] ∧ Same H7 G) ⟨_, _, rfl, Same.refl _⟩ (fun _ _ _ _ _ => trivial) ?_ ?_⟩
      · rintro j x0 σ G0 G1 hj ⟨y7, y8, rfl, sG⟩ ⟨rfl, rfl⟩
        refine ⟨.ref x, rfl, x, z, zs, rfl, La7.same sG, al, can, fz, by omega, fun q hq => Nat.le_trans (shz q hq) (by decide), Nat.le_trans pz (by decide), fun N1 rq us rows2 s8 nrq hrq iR h0 h1 => ?_⟩
        have s9 := sG.trans s8
        have gd := s9 _ _ g7
        have ird := ir.mono (same_tup s9)
        have er : rows2 = rows := by
          by_cases pe : ps1 = []
          · rw [h0 (emp.mpr pe), e0 pe]
          · obtain ⟨S0, A0⟩ := h1 fun e => pe (emp.mp e)
            obtain ⟨n, T', B⟩ := e1 pe
            have A1 := A0.auP al
            rw [hl] at A1
            exact A1.uniq B
        subst er
        have low : (∀ r ∈ rows2, r.length ≤ 3 ∧ ∀ o ∈ r, LowO o) ∧ rows2.length ≤ 300 := by
          by_cases pe : ps1 = []
          · rw [e0 pe]
            exact ⟨fun r h => (nomatch h), Nat.zero_le _⟩
          · obtain ⟨S0, A0⟩ := h1 fun e => pe (emp.mp e)
            have bd := A0.bound al
            exact ⟨(A0.auP al).low al.2.2.1 (by omega), by rw [A0.full]; omega⟩
        obtain ⟨w1, w2, w3, w4⟩ := rowsD_show low.1 low.2
        have lus := iR.len
        have h300 := low.2
        refine ⟨.ref rq, rfl, rq, .list (rows2.map plD), rfl, .lst (SqL.of hrq) iR.dp, w1, w2, w3, w4, .ref qd, rfl, qd, .list (rows2.map plD), rfl, .lst (SqL.of gd) ird.dp, w1, w2, w3, w4, rfl, _, rfl, ?_⟩
        rw [decide_eq_true rfl]
        refine iteF ⟨.ref rq, rfl, .inl ⟨rfl, _, SqL.of hrq⟩, rq, us, .non, rfl, rfl, hrq, by rw [sizeLine_eq]; omega, .ref rq, rfl, .inl ⟨rfl, _, SqL.of upd_same⟩, rq, _, rfl, rfl, upd_same, _, _, rfl, fun b o e => ?_⟩
        have ne : b ≠ rq := ne_of_none (sG b o e) nrq
        exact (upd_ne ne).trans ((upd_ne ne).trans (s9 b o e))
      rintro σ G ⟨y7, y8, rfl, sG⟩
      exact ⟨_, _, _, _, _, _, _, rfl, (T7.same sG).mono (by omega)⟩
    · rintro σ H' ⟨y2, y3, y4, y5, y6, y7, y8, rfl, T⟩
      exact k _
end
end DW
set_option maxHeartbeats 0
namespace DW
open PySem PySem.Spec PyProof.Rows L2
theorem df {K : PySem.W.Frag} {h : Heap} {mg : Str → Option Value} {x : Str} {st : Stmt} {ps : List Str} (X : K.In h) (G : h.Ns mainGlobals mg) (hf : ∃ fd, FunD K x x (defArgs st) (defBody st) (defScope st) [] [] (He.fAd K (x, none)) fd) (hg : (He.Fa.glo x).ok K = true)
    (b : ∀ (kV doc pm : Value) (an : Option Addr) (cdv ct : Value) (us : List Value), us.length = ps.length → bindArgs (PySem.W.fnOf x x (defArgs st) (defBody st) (defScope st) .none kV doc pm an cdv ct) ⟨us, []⟩ = pure (ps.zip us)) :
    ∃ D : Df K mg x st ps, D.f = He.fAd K (x, none) := by
  obtain ⟨fd, F⟩ := hf
  exact ⟨⟨He.fAd K (x, none), fd, F, He.glo_ok X G hg, F.bindsN b⟩, rfl⟩
theorem facts {P : Program} {w : World} {K : PySem.W.Frag} {h : Heap} {mg : Str → Option Value} {f : Addr} (X : K.In h) (G : h.Ns mainGlobals mg) (hfa : mg ("law" : Str) = some (.ref f)) (c : He.SaysD fa fn K) :
    ∃ fd : FuncData, (∀ (s : Shared) (v : Value), BindsTo s fd ⟨[v], []⟩ [("_law_script", v)]) ∧ ∀ base : Heap, K.In base → base.Ns mainGlobals mg → GA.FnAt P w K mg base f fd ["_law_script"] (spLaw K) := by
  have e := hfa.symm.trans (He.glo_ok X G (c.fact 0 (f := .glo "law") rfl))
  cases e
  obtain ⟨D0, e0⟩ := df (st := sLaw) (ps := ["_law_script"]) X G (c.def_ 0 (d := mkD "law" sLaw) rfl) (c.fact 0 (f := .glo "law") rfl) fun _ _ _ _ _ _ us hl => match us, hl with | [_], _ => rfl
  obtain ⟨D1, e1⟩ := df (st := sWall) (ps := ["k"]) X G (c.def_ 1 (d := mkD "_wall" sWall) rfl) (c.fact 1 (f := .glo "_wall") rfl) fun _ _ _ _ _ _ us hl => match us, hl with | [_], _ => rfl
  obtain ⟨D2, e2⟩ := df (st := sIsAscending) (ps := ["letters"]) X G (c.def_ 2 (d := mkD "is_ascending" sIsAscending) rfl) (c.fact 2 (f := .glo "is_ascending") rfl) fun _ _ _ _ _ _ us hl => match us, hl with | [_], _ => rfl
  obtain ⟨D3, e3⟩ := df (st := sIsAlphabet) (ps := ["thing"]) X G (c.def_ 3 (d := mkD "is_alphabet" sIsAlphabet) rfl) (c.fact 3 (f := .glo "is_alphabet") rfl) fun _ _ _ _ _ _ us hl => match us, hl with | [_], _ => rfl
  obtain ⟨D4, e4⟩ := df (st := sIsWord) (ps := ["alphabet", "thing"]) X G (c.def_ 4 (d := mkD "is_word" sIsWord) rfl) (c.fact 4 (f := .glo "is_word") rfl) fun _ _ _ _ _ _ us hl => match us, hl with | [_, _], _ => rfl
  obtain ⟨D5, e5⟩ := df (st := sIsFactor) (ps := ["alphabet", "thing"]) X G (c.def_ 5 (d := mkD "is_factor" sIsFactor) rfl) (c.fact 5 (f := .glo "is_factor") rfl) fun _ _ _ _ _ _ us hl => match us, hl with | [_, _], _ => rfl
  obtain ⟨D6, e6⟩ := df (st := sIsProduct) (ps := ["alphabet", "thing"]) X G (c.def_ 6 (d := mkD "is_product" sIsProduct) rfl) (c.fact 6 (f := .glo "is_product") rfl) fun _ _ _ _ _ _ us hl => match us, hl with | [_, _], _ => rfl
  obtain ⟨D7, e7⟩ := df (st := sFormatFactor) (ps := ["factor"]) X G (c.def_ 7 (d := mkD "format_factor" sFormatFactor) rfl) (c.fact 7 (f := .glo "format_factor") rfl) fun _ _ _ _ _ _ us hl => match us, hl with | [_], _ => rfl
  obtain ⟨D8, e8⟩ := df (st := sFormatProduct) (ps := ["product"]) X G (c.def_ 8 (d := mkD "format_product" sFormatProduct) rfl) (c.fact 8 (f := .glo "format_product") rfl) fun _ _ _ _ _ _ us hl => match us, hl with | [_], _ => rfl
  obtain ⟨D9, e9⟩ := df (st := sLettersOf) (ps := ["factors"]) X G (c.def_ 9 (d := mkD "letters_of" sLettersOf) rfl) (c.fact 9 (f := .glo "letters_of") rfl) fun _ _ _ _ _ _ us hl => match us, hl with | [_], _ => rfl
  obtain ⟨D10, e10⟩ := df (st := sSwallows) (ps := ["factor", "other"]) X G (c.def_ 10 (d := mkD "swallows" sSwallows) rfl) (c.fact 10 (f := .glo "swallows") rfl) fun _ _ _ _ _ _ us hl => match us, hl with | [_, _], _ => rfl
  obtain ⟨D11, e11⟩ := df (st := sCovers) (ps := ["factor", "other"]) X G (c.def_ 11 (d := mkD "covers" sCovers) rfl) (c.fact 11 (f := .glo "covers") rfl) fun _ _ _ _ _ _ us hl => match us, hl with | [_, _], _ => rfl
  obtain ⟨D12, e12⟩ := df (st := sReduceProduct) (ps := ["product"]) X G (c.def_ 12 (d := mkD "reduce_product" sReduceProduct) rfl) (c.fact 12 (f := .glo "reduce_product") rfl) fun _ _ _ _ _ _ us hl => match us, hl with | [_], _ => rfl
  obtain ⟨D13, e13⟩ := df (st := sBehind) (ps := ["product", "place"]) X G (c.def_ 13 (d := mkD "behind" sBehind) rfl) (c.fact 13 (f := .glo "behind") rfl) fun _ _ _ _ _ _ us hl => match us, hl with | [_, _], _ => rfl
  obtain ⟨D14, e14⟩ := df (st := sPlaceBehind) (ps := ["product", "other", "start"]) X G (c.def_ 14 (d := mkD "place_behind" sPlaceBehind) rfl) (c.fact 14 (f := .glo "place_behind") rfl) fun _ _ _ _ _ _ us hl => match us, hl with | [_, _, _], _ => rfl
  obtain ⟨D15, e15⟩ := df (st := sIsIncluded) (ps := ["product", "other"]) X G (c.def_ 15 (d := mkD "is_included" sIsIncluded) rfl) (c.fact 15 (f := .glo "is_included") rfl) fun _ _ _ _ _ _ us hl => match us, hl with | [_, _], _ => rfl
  obtain ⟨D16, e16⟩ := df (st := sSubwordsProduct) (ps := ["word"]) X G (c.def_ 16 (d := mkD "subwords_product" sSubwordsProduct) rfl) (c.fact 16 (f := .glo "subwords_product") rfl) fun _ _ _ _ _ _ us hl => match us, hl with | [_], _ => rfl
  obtain ⟨D17, e17⟩ := df (st := sIsInside) (ps := ["product", "products"]) X G (c.def_ 17 (d := mkD "is_inside" sIsInside) rfl) (c.fact 17 (f := .glo "is_inside") rfl) fun _ _ _ _ _ _ us hl => match us, hl with | [_, _], _ => rfl
  obtain ⟨D18, e18⟩ := df (st := sSizeOfProduct) (ps := ["product"]) X G (c.def_ 18 (d := mkD "size_of_product" sSizeOfProduct) rfl) (c.fact 18 (f := .glo "size_of_product") rfl) fun _ _ _ _ _ _ us hl => match us, hl with | [_], _ => rfl
  obtain ⟨D19, e19⟩ := df (st := sByWrittenForm) (ps := ["products"]) X G (c.def_ 19 (d := mkD "by_written_form" sByWrittenForm) rfl) (c.fact 19 (f := .glo "by_written_form") rfl) fun _ _ _ _ _ _ us hl => match us, hl with | [_], _ => rfl
  obtain ⟨D20, e20⟩ := df (st := sMaximalProducts) (ps := ["products"]) X G (c.def_ 20 (d := mkD "maximal_products" sMaximalProducts) rfl) (c.fact 20 (f := .glo "maximal_products") rfl) fun _ _ _ _ _ _ us hl => match us, hl with | [_], _ => rfl
  obtain ⟨D21, e21⟩ := df (st := sFormatProducts) (ps := ["products"]) X G (c.def_ 21 (d := mkD "format_products" sFormatProducts) rfl) (c.fact 21 (f := .glo "format_products") rfl) fun _ _ _ _ _ _ us hl => match us, hl with | [_], _ => rfl
  obtain ⟨D22, e22⟩ := df (st := sLanguageOfMaximal) (ps := ["alphabet", "products"]) X G (c.def_ 22 (d := mkD "language_of_maximal" sLanguageOfMaximal) rfl) (c.fact 22 (f := .glo "language_of_maximal") rfl) fun _ _ _ _ _ _ us hl => match us, hl with | [_, _], _ => rfl
  obtain ⟨D23, e23⟩ := df (st := sNumberOfFactors) (ps := ["language"]) X G (c.def_ 23 (d := mkD "number_of_factors" sNumberOfFactors) rfl) (c.fact 23 (f := .glo "number_of_factors") rfl) fun _ _ _ _ _ _ us hl => match us, hl with | [_], _ => rfl
  obtain ⟨D24, e24⟩ := df (st := sCheckFactors) (ps := ["language", "limit"]) X G (c.def_ 24 (d := mkD "check_factors" sCheckFactors) rfl) (c.fact 24 (f := .glo "check_factors") rfl) fun _ _ _ _ _ _ us hl => match us, hl with | [_, _], _ => rfl
  obtain ⟨D25, e25⟩ := df (st := sRestsBehind) (ps := ["product", "language"]) X G (c.def_ 25 (d := mkD "rests_behind" sRestsBehind) rfl) (c.fact 25 (f := .glo "rests_behind") rfl) fun _ _ _ _ _ _ us hl => match us, hl with | [_, _], _ => rfl
  obtain ⟨D26, e26⟩ := df (st := sDerivative) (ps := ["language", "word"]) X G (c.def_ 26 (d := mkD "derivative" sDerivative) rfl) (c.fact 26 (f := .glo "derivative") rfl) fun _ _ _ _ _ _ us hl => match us, hl with | [_, _], _ => rfl
  obtain ⟨D27, e27⟩ := df (st := sAutomaton) (ps := ["language"]) X G (c.def_ 27 (d := mkD "automaton" sAutomaton) rfl) (c.fact 27 (f := .glo "automaton") rfl) fun _ _ _ _ _ _ us hl => match us, hl with | [_], _ => rfl
  obtain ⟨D28, e28⟩ := df (st := sBegin) (ps := ["_law_script"]) X G (c.def_ 28 (d := mkD "_law_begin" sBegin) rfl) (c.fact 28 (f := .glo "_law_begin") rfl) fun _ _ _ _ _ _ us hl => match us, hl with | [_], _ => rfl
  obtain ⟨D29, e29⟩ := df (st := sDraw) (ps := ["_law_tape", "_law_many"]) X G (c.def_ 29 (d := mkD "_law_draw" sDraw) rfl) (c.fact 29 (f := .glo "_law_draw") rfl) fun _ _ _ _ _ _ us hl => match us, hl with | [_, _], _ => rfl
  obtain ⟨D30, e30⟩ := df (st := sPick) (ps := ["_law_tape", "_law_items"]) X G (c.def_ 30 (d := mkD "_law_pick" sPick) rfl) (c.fact 30 (f := .glo "_law_pick") rfl) fun _ _ _ _ _ _ us hl => match us, hl with | [_, _], _ => rfl
  obtain ⟨D31, e31⟩ := df (st := sAlpha) (ps := ["_law_tape"]) X G (c.def_ 31 (d := mkD "_law_alphabet" sAlpha) rfl) (c.fact 31 (f := .glo "_law_alphabet") rfl) fun _ _ _ _ _ _ us hl => match us, hl with | [_], _ => rfl
  obtain ⟨D32, e32⟩ := df (st := sFactor) (ps := ["_law_tape", "_law_alphabet_here"]) X G (c.def_ 32 (d := mkD "_law_factor" sFactor) rfl) (c.fact 32 (f := .glo "_law_factor") rfl) fun _ _ _ _ _ _ us hl => match us, hl with | [_, _], _ => rfl
  obtain ⟨D33, e33⟩ := df (st := sProduct) (ps := ["_law_tape", "_law_alphabet_here", "_law_longest"]) X G (c.def_ 33 (d := mkD "_law_product" sProduct) rfl) (c.fact 33 (f := .glo "_law_product") rfl) fun _ _ _ _ _ _ us hl => match us, hl with | [_, _, _], _ => rfl
  obtain ⟨D34, e34⟩ := df (st := sLProducts) (ps := ["_law_tape", "_law_alphabet_here", "_law_many", "_law_longest"]) X G (c.def_ 34 (d := mkD "_law_products" sLProducts) rfl) (c.fact 34 (f := .glo "_law_products") rfl) fun _ _ _ _ _ _ us hl => match us, hl with | [_, _, _, _], _ => rfl
  obtain ⟨D35, e35⟩ := df (st := sLPlaceBehind) (ps := ["_law_product_here", "_law_place", "_law_letter"]) X G (c.def_ 35 (d := mkD "_law_place_behind" sLPlaceBehind) rfl) (c.fact 35 (f := .glo "_law_place_behind") rfl) fun _ _ _ _ _ _ us hl => match us, hl with | [_, _, _], _ => rfl
  obtain ⟨D36, e36⟩ := df (st := sLPlacesBehind) (ps := ["_law_products_here", "_law_places", "_law_letter"]) X G (c.def_ 36 (d := mkD "_law_places_behind" sLPlacesBehind) rfl) (c.fact 36 (f := .glo "_law_places_behind") rfl) fun _ _ _ _ _ _ us hl => match us, hl with | [_, _, _], _ => rfl
  obtain ⟨D37, e37⟩ := df (st := sLStart) (ps := ["_law_products_here"]) X G (c.def_ 37 (d := mkD "_law_start" sLStart) rfl) (c.fact 37 (f := .glo "_law_start") rfl) fun _ _ _ _ _ _ us hl => match us, hl with | [_], _ => rfl
  obtain ⟨D38, e38⟩ := df (st := sLMachine) (ps := ["_law_products_here", "_law_alphabet_here"]) X G (c.def_ 38 (d := mkD "_law_machine" sLMachine) rfl) (c.fact 38 (f := .glo "_law_machine") rfl) fun _ _ _ _ _ _ us hl => match us, hl with | [_, _], _ => rfl
  obtain ⟨D39, e39⟩ := df (st := sLClasses) (ps := ["_law_rows"]) X G (c.def_ 39 (d := mkD "_law_classes" sLClasses) rfl) (c.fact 39 (f := .glo "_law_classes") rfl) fun _ _ _ _ _ _ us hl => match us, hl with | [_], _ => rfl
  obtain ⟨D40, e40⟩ := df (st := sLSmallest) (ps := ["_law_products_here", "_law_alphabet_here"]) X G (c.def_ 40 (d := mkD "_law_smallest" sLSmallest) rfl) (c.fact 40 (f := .glo "_law_smallest") rfl) fun _ _ _ _ _ _ us hl => match us, hl with | [_, _], _ => rfl
  obtain ⟨fdi, Fi⟩ := c.def_ 41 (d := ⟨("Language", some "__init__"), "__init__", "Language.__init__", defArgs sLangInit, defBody sLangInit, defScope sLangInit, [], []⟩) rfl
  obtain ⟨fd0, F0⟩ := c.def_ 42 (d := ⟨("Language", some "contains"), "contains", "Language.contains", defArgs sLangContains, defBody sLangContains, defScope sLangContains, [], []⟩) rfl
  obtain ⟨fd1, F1⟩ := c.def_ 43 (d := ⟨("Language", some "alphabet"), "alphabet", "Language.alphabet", defArgs sLangAlphabet, defBody sLangAlphabet, defScope sLangAlphabet, [], []⟩) rfl
  obtain ⟨fd2, F2⟩ := c.def_ 44 (d := ⟨("Language", some "products"), "products", "Language.products", defArgs sLangProducts, defBody sLangProducts, defScope sLangProducts, [], []⟩) rfl
  obtain ⟨fd3, F3⟩ := c.def_ 45 (d := ⟨("Language", some "is_empty"), "is_empty", "Language.is_empty", defArgs sLangEmpty, defBody sLangEmpty, defScope sLangEmpty, [], []⟩) rfl
  obtain ⟨fd4, F4⟩ := c.def_ 46 (d := ⟨("Language", some "is_full"), "is_full", "Language.is_full", defArgs sLangFull, defBody sLangFull, defScope sLangFull, [], []⟩) rfl
  obtain ⟨fd5, F5⟩ := c.def_ 47 (d := ⟨("Language", some "letters"), "letters", "Language.letters", defArgs sLangLetters, defBody sLangLetters, defScope sLangLetters, [], []⟩) rfl
  obtain ⟨fd6, F6⟩ := c.def_ 48 (d := ⟨("Language", some "__eq__"), "__eq__", "Language.__eq__", defArgs sLangEq, defBody sLangEq, defScope sLangEq, [], []⟩) rfl
  obtain ⟨fd7, F7⟩ := c.def_ 49 (d := ⟨("Language", some "__str__"), "__str__", "Language.__str__", defArgs sLangStr, defBody sLangStr, defScope sLangStr, [], []⟩) rfl
  let Cl0 : DfC K mg := ⟨He.ga K "Language", He.glo_ok X G (c.fact 61 (f := .glo "Language") rfl), He.cls_ok (c.fact 62 (f := .cls "Language") rfl), He.noat_ok (c.fact 63 (f := .noat "Language" "base") rfl), He.noat_ok (c.fact 64 (f := .noat "Language" "maximal") rfl),
    ⟨_, fdi, Fi, Fi.bindsN fun _ _ _ _ _ _ us hl => match us, hl with | [_, _, _], _ => rfl⟩, He.mkr_ok (c.fact 65 (f := .mkr "Language") rfl), ⟨_, fd0, F0, F0.bindsN fun _ _ _ _ _ _ us hl => match us, hl with | [_, _], _ => rfl⟩, He.meth_ok (c.fact 66 (f := .meth "Language" "contains") rfl)⟩
  have Cl : DfC2 K mg := ⟨Cl0, ⟨_, fd1, F1, F1.bindsN fun _ _ _ _ _ _ us hl => match us, hl with | [_], _ => rfl⟩, He.meth_ok (c.fact 67 (f := .meth "Language" "alphabet") rfl), ⟨_, fd2, F2, F2.bindsN fun _ _ _ _ _ _ us hl => match us, hl with | [_], _ => rfl⟩, He.meth_ok (c.fact 68 (f := .meth "Language" "products") rfl), ⟨_, fd3, F3, F3.bindsN fun _ _ _ _ _ _ us hl => match us, hl with | [_], _ => rfl⟩, He.meth_ok (c.fact 69 (f := .meth "Language" "is_empty") rfl), ⟨_, fd4, F4, F4.bindsN fun _ _ _ _ _ _ us hl => match us, hl with | [_], _ => rfl⟩, He.meth_ok (c.fact 70 (f := .meth "Language" "is_full") rfl), ⟨_, fd5, F5, F5.bindsN fun _ _ _ _ _ _ us hl => match us, hl with | [_], _ => rfl⟩, He.meth_ok (c.fact 71 (f := .meth "Language" "letters") rfl), ⟨_, fd6, F6, F6.bindsN fun _ _ _ _ _ _ us hl => match us, hl with | [_, _], _ => rfl⟩, He.meth_ok (c.fact 72 (f := .meth "Language" "__eq__") rfl), ⟨_, fd7, F7, F7.bindsN fun _ _ _ _ _ _ us hl => match us, hl with | [_], _ => rfl⟩, He.meth_ok (c.fact 73 (f := .meth "Language" "__str__") rfl)⟩
  have b := FunD.bindsA (ps := ["_law_script"]) D0.F fun _ _ _ _ _ _ us hl => match us, hl with | [_], _ => rfl
  refine ⟨D0.fd, fun s v => b s [v] rfl, fun base _ _ => ?_⟩
  have q := ok_law (P := P) (w := w) (base := base) D0 ⟨D1, D2, D3, D4, D5, D6, D7, D8, D9, D10, D11, D12, D13, D14, D15, D16, D17, D18, D19, D20, D21, D22, D23, D24, D25, D26, D27, D28, D29, D30, D31, D32, D33, D34, D35, D36, D37, D38, D39, D40, ⟨He.free_ok X G (c.fact 45 (f := .free "len") rfl), He.free_ok X G (c.fact 50 (f := .free "range") rfl), He.free_ok X G (c.fact 47 (f := .free "sorted") rfl), He.free_ok X G (c.fact 48 (f := .free "set") rfl)⟩, He.free_ok X G (c.fact 41 (f := .free "all") rfl), He.free_ok X G (c.fact 42 (f := .free "zip") rfl), He.free_ok X G (c.fact 43 (f := .free "isinstance") rfl), He.free_ok X G (c.fact 44 (f := .free "str") rfl), He.free_ok X G (c.fact 46 (f := .free "tuple") rfl), He.free_ok X G (c.fact 49 (f := .free "reversed") rfl), He.free_ok X G (c.fact 51 (f := .free "list") rfl), He.free_ok X G (c.fact 52 (f := .free "sum") rfl), He.free_ok X G (c.fact 53 (f := .free "int") rfl), He.free_ok X G (c.fact 54 (f := .free "dict") rfl), He.free_ok X G (c.fact 55 (f := .free "repr") rfl), He.free_ok X G (c.fact 56 (f := .free "enumerate") rfl), He.int_ok X G (c.fact 57 (f := .int "MOST_LETTERS" 3) rfl), He.int_ok X G (c.fact 58 (f := .int "COUNTING_LIMIT" 24) rfl), He.str_ok X G (c.fact 59 (f := .str "EMPTY_FORM" "-") rfl), He.str_ok X G (c.fact 60 (f := .str "NO_WORDS" "none") rfl), Cl⟩
  rw [e0] at q
  exact q
end DW
open PySem PySem.W PySem.Calls PyProof.Rows
theorem PySem.Challenge.cw_downwords_k43_smallest_automata_holds : PySem.Challenge.rw_downwords_k43_smallest_automata.Holds := by
  w_on; o_law
  refine HandSHeadRun.head_any (r := OpenLaw.row PySem.Challenge.rw_downwords_k43_smallest_automata) (q := view (OpenLaw.row PySem.Challenge.rw_downwords_k43_smallest_automata).prog [56]) (H := DW.hk) (ob := DW.ob) (M := 4000) (loose := DW.names) (d := HandSHeadRun.topDef (OpenLaw.row PySem.Challenge.rw_downwords_k43_smallest_automata).prog 56) (kwd := []) DW.ob_eq
    (by kernel_rfl) (fun s => by kernel_rfl) DW.run (by kernel_rfl) (by kernel_rfl) (by kernel_rfl) (by rfl) (by first | assumption | decide +kernel) (by decide +kernel) ⟨rfl, rfl, rfl, rfl, rfl, by decide +kernel⟩ ?hw ?hc
  case hw => w_witness2
  case hc =>
    refine GA.walkAt (l := PySem.Challenge.rw_downwords_k43_smallest_automata) (n := 63) (x := "_law_script") rfl (by decide) (by kernel_rfl) ?F
    intro w mg fa h Y G hmg0
    obtain ⟨K, KX, c⟩ := Y
    have hmg : mg ("law" : PySem.Str) = some (.ref fa) := by
      have e : (HandSHeadRun.topDef (OpenLaw.row PySem.Challenge.rw_downwords_k43_smallest_automata).prog 56).name = ("law" : PySem.Str) := by kernel_rfl
      rw [← e]
      exact hmg0
    obtain ⟨fd, hb, hF⟩ := DW.facts (P := (PySem.Challenge.rw_downwords_k43_smallest_automata).prog) (w := w) KX G hmg c
    exact ⟨K, fd, DW.spLaw K, KX, hb, fun H a ns hl _ hS => ⟨a, ns, rfl, hS, fun _ => rfl⟩, hF⟩
