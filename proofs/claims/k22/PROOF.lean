import PyProof.Rows.All
import Wide.All
import OpenK.AllK
import Wide.FinOn
import HandS.List
import HandS.SetTxt0
import HandS.SetFor
import HandS.Strs
import PyProof.FString2
import KE.KExcSuper
import HandS.Nested
import HandS.Exc
import HandS.ExcOwn
import HandS.ExcInit
import KE.KExcIs
import HandS.FStr
import HandS.ForMost
import HandS.ExcField
import HandS.HeadHook1
import HandS.HeadHook2
import HandS.HeadHook4
import HandS.ExcIs
import HandS.TryMany
import KE.KTryMore
import HandS.ExcValue
import HandS.Flow
import HandS.Small
import HandS.Codes
import HandS.Defaults
import HandS.WordsExc
import HandS.Walk
import KE.KStateDown
import Lean
import HandS.More
import HandS.Head0
import HandS.Head1
import HandS.Head2
import HandS.HeadEnd
import PySem.Challenge.RW_downwords_k22_error_fields
set_option Elab.async false
set_option linter.all false
set_option maxRecDepth 100000
set_option maxHeartbeats 2000000
/-! Sets of texts: set(list of texts), set(text), sorted(set). -/
namespace TX
open PySem PySem.Spec PyProof.Rows L2 PySem.Froz

/-! ### lists -/
theorem perm_of_sub {α : Type} [DecidableEq α] : ∀ (l ks : List α), l.Nodup → (∀ x ∈ l, x ∈ ks) → ks.length ≤ l.length → ks.Perm l
  | [], ks, _, _, hl => by
    have e : ks = [] := List.length_eq_zero_iff.mp (Nat.le_zero.mp hl)
    rw [e]
  | x :: l, ks, nd, sub, hl => by
    obtain ⟨hx, nd'⟩ := List.nodup_cons.mp nd
    have hk : x ∈ ks := sub x List.mem_cons_self
    have p1 : ks.Perm (x :: ks.erase x) := List.perm_cons_erase hk
    have l1 : (ks.erase x).length = ks.length - 1 := List.length_erase_of_mem hk
    have sub' : ∀ y ∈ l, y ∈ ks.erase x := fun y hy => by
      have ne : y ≠ x := fun e => hx (e ▸ hy)
      exact (List.mem_erase_of_ne ne).mpr (sub y (List.mem_cons_of_mem _ hy))
    have p2 := perm_of_sub l (ks.erase x) nd' sub' (by rw [l1]; rw [List.length_cons] at hl; omega)
    exact p1.trans (p2.cons x)

/-! ### the set's state -/
structure Ok (P : Program) (w : World) (D : SD) (l : List Str) : Prop where
  tx : TxOk P w D l
  up : Ris D.2.2.place.toList
  led : w.params.followText "set-order" = true ∨ D.2.2.led = true
  nd : l.Nodup
def At (P : Program) (w : World) (h : Heap) (a : Addr) (l : List Str) : Prop := ∃ D : SD, h.get? a = some (sObj "set" D) ∧ Ok P w D l

section
variable {P : Program} {w : World} {A : Around} {E : Value → Shared → Prop} {s : Shared}
theorem At.move {h h' : Heap} {a : Addr} {l : List Str} (x : At P w h a l) (k : ∀ o, h.get? a = some o → h'.get? a = some o) : At P w h' a l := by
  obtain ⟨D, hD, o⟩ := x
  exact ⟨D, k _ hD, o⟩
theorem tail_up {ep : Nat} {es : Array (Int × Value)} {t : SetTable} {b : Bool} (r : Ris t.place.toList) : Ris (tailTx ep es t b).2.2.place.toList := by
  unfold tailTx
  by_cases c : (!b && t.tooFull) = true
  · rw [if_pos c]
    exact relayAll_ris _ _ _
  · rw [if_neg c]
    exact r
theorem tail_led {ep : Nat} {es : Array (Int × Value)} {t : SetTable} {b : Bool} : (tailTx ep es t b).2.2.led = t.led := by
  unfold tailTx
  by_cases c : (!b && t.tooFull) = true
  · rw [if_pos c]
    exact relayAll_led _ _ _
  · rw [if_neg c]
def dull (t : SetTable) : SetTable := if t.plain = true then { t with plain := false } else t
theorem dull_place (t : SetTable) : (dull t).place = t.place := by
  unfold dull
  by_cases c : t.plain = true
  · rw [if_pos c]
  · rw [if_neg c]
theorem dull_led (t : SetTable) : (dull t).led = t.led := by
  unfold dull
  by_cases c : t.plain = true
  · rw [if_pos c]
  · rw [if_neg c]
theorem Ok.add {D : SD} {l : List Str} {k : Str} (u : Tok) (o : Ok P w D l) (hk : k ∉ l) : Ok P w (addTx (hashStr w k) (.str k u) D) (k :: l) := by
  obtain ⟨es, ep, t⟩ := D
  have r1 : Ris (layNew t es (hashStr w k) (.str k u)).2.1.place.toList := layNew_ris t es _ _ o.up
  have l1 : (layNew t es (hashStr w k) (.str k u)).2.1.led = t.led := layNew_led t es _ _
  have e : addTx (hashStr w k) (.str k u) (es, ep, t) = tailTx ep (layNew t es (hashStr w k) (.str k u)).1 (dull (layNew t es (hashStr w k) (.str k u)).2.1) (layNew t es (hashStr w k) (.str k u)).2.2.1 := rfl
  refine ⟨add_ok u o.tx, ?_, ?_, List.nodup_cons.mpr ⟨hk, o.nd⟩⟩
  · rw [e]
    exact tail_up (by rw [dull_place]; exact r1)
  · refine o.led.imp id fun z => ?_
    rw [e, tail_led, dull_led, l1]
    exact z
theorem add_old {a : Addr} {T : String} {D : SD} {l : List Str} {k : Str} {u : Tok} {Q : Bool → Shared → Prop} (ho : s.heap.get? a = some (sObj T D)) (o : TxOk P w D l) (hk : k ∈ l) (hb : l.length < scanBound) (h : Q false s) :
    wpAny (model P w) A (setAddHashed a (.str k u) (hashStr w k)) Q E s := by
  obtain ⟨es, ep, t⟩ := D
  have dd : (sObj T (es, ep, t)).data = .set es ep t := rfl
  have ft : t.fits es.size = true := o.fit
  have el : ElemsOf (strKind P w) es.toList := o.el
  have z : es.size = l.length := o.sz
  have b0 : es.size < scanBound := by omega
  have ky : (strKind P w).is k (.str k u) = true := is_str k u
  obtain ⟨e0, he0, q0⟩ := (o.mem k).mp hk
  unfold setAddHashed setAddHashedIn
  refine wpAny_holding (wpAny_bind (wpAny_setState_of ho dd ft ?_))
  dsimp only
  rw [byScan_of rfl b0 el]
  simp only [↓reduceIte]
  unfold setAddByScan
  refine wpAny_bind (wpAny_bind (wpAny_rule (wpAny_bind (wpAny_setScan_of (knd := strKind P w) (k := k) ky ho dd ft el ?_))))
  cases fi : List.findIdx? (fun e => (strKind P w).is k e.2) es.toList with
  | some j =>
    dsimp only
    exact wpAny_pure (wpAny_pure h)
  | none =>
    have c := List.findIdx?_eq_none_iff.mp fi e0 he0
    rw [q0] at c
    cases c

/-! ### the loop that fills it -/
theorem fill {I : Addr} {fp wr : List Addr} {G : Array GenState → Array GenState → Prop} {n : Nat} {Pv : Nat → Value → Prop} {St : Nat → Shared → Prop} {R : Result → Shared → Prop}
    (W : WalksS P w A.in1 I fp wr G n Pv St) (a : Addr) (ha : a ∉ fp) (xs : List Str) (hn : n = xs.length) (hb : xs.length + 1 < scanBound) (hv : ∀ i v, Pv i v → ∃ k t, xs[i]? = some k ∧ v = .str k t) :
    ∀ (m i : Nat) (s : Shared), n - i = m → i ≤ n → St i s → (∃ l, At P w s.heap a l ∧ l.length ≤ i ∧ ∀ k, k ∈ l ↔ k ∈ xs.take i) →
      (∀ s' l, Moved (a :: wr) G s s' → At P w s'.heap a l → (∀ k, k ∈ l ↔ k ∈ xs) → l.length ≤ n → R (.ok (.ret .none)) s') →
      codeAny (model P w) A (.builtin "set.update.loop" ⟨[.ref a, .ref I], []⟩) R s := by
  have aw : a ∉ wr := fun q => ha (W.sub _ q)
  have ww : ∀ b ∈ wr, b ∈ a :: wr := fun b q => List.mem_cons_of_mem _ q
  intro m
  induction m with
  | zero =>
    intro i s em hi st ⟨l, hA, hl, mem⟩ hR
    obtain rfl : i = n := by omega
    refine codeAny_builtin F.entry_set_update_loop ?_
    rw [Around.under_plainId F.plain_set_update_loop _]
    show wpAny _ A.in1 (pyNext (.ref I) >>= _) _ _ s
    refine wpAny_bind (W.done s _ _ st fun s' mv => ?_)
    show wpAny _ A.in1 (ret Value.none) _ _ s'
    have et : xs.take i = xs := List.take_of_length_le (by omega)
    rw [et] at mem
    exact wpAny_pure (hR s' l (mv.mono ww) (hA.move fun o e => mv.heap a o aw e) mem hl)
  | succ m ih =>
    intro i s em hi st ⟨l, hA, hl, mem⟩ hR
    have lt : i < n := by omega
    refine codeAny_builtin F.entry_set_update_loop ?_
    rw [Around.under_plainId F.plain_set_update_loop _]
    show wpAny _ A.in1 (pyNext (.ref I) >>= _) _ _ s
    refine wpAny_bind (W.item i s _ _ lt st fun v s1 hP st1 mv => ?_)
    obtain ⟨k, t, hk, rfl⟩ := hv i v hP
    obtain ⟨D, hD, oD⟩ := hA.move (h' := s1.heap) fun o e => mv.heap a o aw e
    show wpAny _ A.in1 (holding [Value.str k t] (setAdd a (.str k t)) >>= _) _ _ s1
    refine wpAny_bind (wpAny_holding ?_)
    unfold setAdd
    refine wpAny_holding (wpAny_bind ((strKind P w).pyHash (k := k) (is_str k t) ?_))
    have tk : xs.take (i + 1) = xs.take i ++ [k] := by rw [List.take_add_one, hk] <;> rfl
    by_cases kl : k ∈ l
    · refine add_old (s := { s1 with toks := s1.toks + 1 }) hD oD.tx kl (by omega) ?_
      refine wpAny_pure ⟨plainId_quiet F.plain_set_update_loop _, ih (i + 1) _ (by omega) lt (W.frame _ s1 _ _ st1 (Nat.le_succ _) fun b _ o e => e) ⟨l, ⟨D, hD, oD⟩, by omega, fun j => ?_⟩ fun s2 l2 mv2 hA2 mem2 hl2 => ?_⟩
      · rw [tk, List.mem_append, List.mem_singleton, ← mem j]
        exact ⟨.inl, fun q => q.elim id fun e => e ▸ kl⟩
      · exact hR s2 l2 (Moved.trans W.gtrans ((mv.mono ww).then_heap (Nat.le_succ _) fun b o _ e => e) mv2) hA2 mem2 hl2
    · refine add_x (s := { s1 with toks := s1.toks + 1 }) hD oD.tx kl (by omega) ?_
      have hg : (s1.heap.update a (fun _ => sObj "set" (addTx (hashStr w k) (.str k t) D))).get? a = some (sObj "set" (addTx (hashStr w k) (.str k t) D)) := get_upd _ hD rfl
      have ot : ∀ b o, b ≠ a → s1.heap.get? b = some o → (s1.heap.update a (fun _ => sObj "set" (addTx (hashStr w k) (.str k t) D))).get? b = some o :=
        fun b o ne e => (Heap.get?_update_other _ _ (Ne.symm ne)).trans e
      refine wpAny_pure ⟨plainId_quiet F.plain_set_update_loop _, ih (i + 1) _ (by omega) lt (W.frame _ s1 _ _ st1 (Nat.le_succ _) fun b q o e => ?_) ⟨k :: l, ⟨_, hg, oD.add t kl⟩, by rw [List.length_cons]; omega, fun j => ?_⟩ fun s2 l2 mv2 hA2 mem2 hl2 => ?_⟩
      · exact ot b o (fun z => ha (z ▸ q)) e
      · rw [tk, List.mem_append, List.mem_singleton, ← mem j, List.mem_cons]
        exact Or.comm
      · refine hR s2 l2 (Moved.trans W.gtrans ((mv.mono ww).then_heap (Nat.le_succ _) fun b o q e => ?_) mv2) hA2 mem2 hl2
        exact ot b o (fun z => q (z ▸ List.mem_cons_self)) e
end

/-! ### set(v) -/
abbrev fresh (w : World) : Obj := { cls := .type "set", dict := none, data := .set #[] 0 (.fresh 0 0 (!w.params.followText "set-order")) }
theorem fresh_ok {P : Program} {w : World} : Ok P w (#[], 0, .fresh 0 0 (!w.params.followText "set-order")) [] where
  tx := TxOk.nil (by rfl)
  up := List.Pairwise.nil
  led := by
    show _ ∨ (!w.params.followText "set-order") = true
    cases w.params.followText "set-order"
    · exact .inr rfl
    · exact .inl rfl
  nd := List.nodup_nil
theorem at_fresh {P : Program} {w : World} {h : Heap} {a : Addr} (e : h.get? a = some (fresh w)) : At P w h a [] := ⟨(#[], 0, .fresh 0 0 (!w.params.followText "set-order")), e, fresh_ok⟩

section
variable {P : Program} {w : World} {A : Around} {E : Value → Shared → Prop} {s : Shared}
/-- what set(v) leaves: a new object, all else as it was -/
def Left (P : Program) (w : World) (s : Shared) (xs : List Str) (s' : Shared) : Prop :=
  ∃ h' tk l, s' = { s with heap := h', toks := tk } ∧ At P w h' s.heap.objs.size l ∧ (∀ k, k ∈ l ↔ k ∈ xs) ∧ l.length ≤ xs.length ∧ ∀ b o, s.heap.get? b = some o → h'.get? b = some o
set_option maxHeartbeats 4000000 in
theorem call_set_of {v : Value} {xs : List Str} {Q : Value → Shared → Prop}
    (hI : ∀ A' : Around, A'.handled = A.handled → wpAny (model P w) A' (Builtin.«set.__init__» ⟨[.ref s.heap.objs.size, v], []⟩) (fun f s2 => f = .done (.ret .none) ∧ Left P w s xs s2) E { s with heap := s.heap.push (fresh w) })
    (h : ∀ s', Left P w s xs s' → Q (.ref s.heap.objs.size) s') :
    wpAny (model P w) A (call (.type "set") [v]) Q E s := by
  obtain ⟨c, tl, hmro⟩ := F.called_set.mro
  have hmade := F.called_set.made
  have hsub := F.called_set.sub
  refine wpAny_call (codeAny_of_tree ?_)
  show wpAny _ _ (callAny (.type "set") _) _ _ _
  refine wpAny_pure ⟨Code.quiet_builtin _ (by decide +kernel), codeAny_builtin F.entry_type_call ?_⟩
  rw [Around.under_plain (weight_type_call_type "set" [v] []) rfl]
  have h1 := F.called_set.notType
  have h2 := F.called_set.canCreate
  have hct := F.typeCall_set_1 v
  repeat (any_goals (first | assumption | wp_step))
  refine codeAny_mono (code_set_led1 v (E := E) (Q₁ := fun obj s₁ => obj = .ref s.heap.objs.size ∧ s₁ = { s with heap := s.heap.push (fresh w) }) ⟨rfl, rfl⟩) fun r s₁ hr => ?_
  cases r with
  | error e => exact hr
  | ok fl =>
    cases fl with
    | ret obj =>
      obtain ⟨rfl, rfl⟩ := hr
      have hS : (s.heap.push (fresh w)).get? s.heap.objs.size = some (fresh w) := Heap.get?_push_size _ rfl
      have hT : Shared.TypeIs { s with heap := s.heap.push (fresh w) } (.ref s.heap.objs.size) "set" := ⟨_, hS, rfl⟩
      have hli := F.called_set.init.lookup
      have hbi := F.called_set.init.bind (.ref s.heap.objs.size)
      repeat (any_goals (first | assumption | wp_step))
      refine codeAny_mono (codeAny_call_builtin (R := wants (fun r s₂ => r = .none ∧ Left P w s xs s₂) E) F.called_set.init.plain F.entry_set_init (check_set_init_1 hT ?_)) fun r₂ s₂ hr₂ => ?_
      · refine wpAny_mono (hI A.in1.in1 (by simp)) (fun f s2 q => ?_) fun e s2 q => q
        obtain ⟨rfl, q⟩ := q
        exact ⟨rfl, q⟩
      · cases r₂ with
        | error e => exact hr₂
        | ok fl₂ =>
          cases fl₂ with
          | ret r =>
            obtain ⟨rfl, hL⟩ := hr₂
            repeat (any_goals (first | assumption | wp_step))
            exact h _ hL
          | _ => exact hr₂.elim
    | _ => exact hr.elim
theorem left_of {a : Addr} {wr : List Addr} {xs l : List Str} {s s1 s' : Shared} (ea : a = s.heap.objs.size) (hw : ∀ b ∈ wr, s.heap.objs.size ≤ b) (k1 : ∀ b o, s.heap.get? b = some o → s1.heap.get? b = some o)
    (eg : s1.gens = s.gens) (ed : s1.drawn = s.drawn) (eo : s1.os = s.os) (mv : Moved (a :: wr) (fun x y => y = x) s1 s') (hA : At P w s'.heap a l) (mem : ∀ k, k ∈ l ↔ k ∈ xs) (hl : l.length ≤ xs.length) : Left P w s xs s' := by
  obtain ⟨h', g', d', tk', os'⟩ := s'
  have e1 : g' = s.gens := mv.gens.trans eg
  have e2 : d' = s.drawn := mv.drawn.trans ed
  have e3 : os' = s.os := mv.os.trans eo
  subst e1 e2 e3 ea
  refine ⟨h', tk', l, rfl, hA, mem, hl, fun b o e => ?_⟩
  have lt : b < s.heap.objs.size := Heap.lt_size e
  refine mv.heap b o (fun z => ?_) (k1 b o e)
  rcases List.mem_cons.mp z with z | z
  · exact absurd z (Nat.ne_of_lt lt)
  · exact absurd (hw b z) (Nat.not_le_of_lt lt)
set_option maxHeartbeats 4000000 in
theorem init_list {l : Addr} {items : Array Value} {xs : List Str} (hh : A.handled = none) (hl : s.heap.IsList l items) (hi : StrsAre items.toList xs) (hb : xs.length + 1 < scanBound) :
    wpAny (model P w) A (Builtin.«set.__init__» ⟨[.ref s.heap.objs.size, .ref l], []⟩) (fun f s2 => f = .done (.ret .none) ∧ Left P w s xs s2) E { s with heap := s.heap.push (fresh w) } := by
  have hsz : xs.length = items.size := by rw [← StrsAre.len_eq hi, Array.length_toList]
  have hv : ∀ (i : Nat) (v : Value), items[i]? = some v → ∃ k t, xs[i]? = some k ∧ v = .str k t := fun i v q => by
    have hi' : i < xs.length := by rw [hsz]; exact (Array.getElem?_eq_some_iff.mp q).1
    obtain ⟨t, e⟩ := SS.strs_at hi i v (by rw [Array.getElem?_toList]; exact q)
    refine ⟨xs[i], t, List.getElem?_eq_getElem hi', ?_⟩
    rw [e, List.getD_eq_getElem?_getD, List.getElem?_eq_getElem hi'] <;> rfl
  have hS : (s.heap.push (fresh w)).get? s.heap.objs.size = some (fresh w) := Heap.get?_push_size _ rfl
  have hT : Shared.TypeIs { s with heap := s.heap.push (fresh w) } (.ref s.heap.objs.size) "set" := ⟨_, hS, rfl⟩
  obtain ⟨ol, hol, hcl, nl, hdl⟩ := id hl
  obtain ⟨ocls, odict, odata, oslots⟩ := ol
  simp only at hcl hdl
  subst hcl; subst hdl
  have hol1 : (s.heap.push (fresh w)).get? l = some { cls := .type "list", dict := odict, data := .seq items nl, slots := oslots } := Heap.get?_push_of_some _ hol
  have f1 := F.sub_list_set
  have f2 := F.sub_list_frozenset
  have f3 : (Value.type "list" == Value.type "dict") = false := by decide
  have hl1 : (s.heap.push (fresh w)).IsList l items := ⟨_, hol1, rfl, nl, rfl⟩
  have lS : l < s.heap.objs.size := Heap.lt_size hol
  have nI : l ≠ (s.heap.push (fresh w)).objs.size := by
    rw [Heap.size_push]
    exact Nat.ne_of_lt (Nat.lt_succ_of_lt lS)
  have nS : s.heap.objs.size ∉ [(s.heap.push (fresh w)).objs.size, l] := by
    rw [Heap.size_push]
    intro q
    rcases List.mem_cons.mp q with q | q
    · exact absurd q (Nat.ne_of_lt (Nat.lt_succ_self _))
    · exact absurd (List.mem_singleton.mp q) (Nat.ne_of_gt lS)
  have z1 : (s.heap.push (fresh w)).objs.size = s.heap.objs.size + 1 := Heap.size_push ..
  unfold Builtin.«set.__init__» noKeywords Builtin.Frozenset.updateFrom
  generalize ePI : pyIter = PI
  wp_walk
  subst ePI
  refine wpAny_pyIter_list hl1 ?_
  refine wpAny_bind (wpAny_runValue ?_)
  refine fill ((Walks.list (by simp [hh]) _ l nI items).toS) s.heap.objs.size nS xs hsz.symm hb hv (items.size - 0) 0 _ rfl (Nat.zero_le _)
    ⟨⟨_, Heap.get?_push_size _ rfl, rfl, rfl⟩, hl1.push _⟩ ⟨[], at_fresh (Heap.get?_push_of_some _ hS), Nat.le_refl _, fun k => by simp⟩ fun s' m mv hA mem hm => ?_
  show wpAny _ _ _ _ _ _
  refine wpAny_pure ?_
  show wpAny _ _ (ret Value.none) _ _ _
  refine wpAny_pure ⟨rfl, left_of (wr := [_]) rfl ?_ ?k1 ?e1 ?e2 ?e3 mv hA mem (by omega)⟩
  case k1 => exact fun b o e => Heap.get?_push_of_some _ (Heap.get?_push_of_some _ e)
  case e1 => rfl
  case e2 => rfl
  case e3 => rfl
  intro b q
  rw [List.mem_singleton.mp q]
  show _ ≤ (s.heap.push (fresh w)).objs.size
  rw [z1]
  exact Nat.le_succ _
set_option maxHeartbeats 4000000 in
theorem init_text {x : Str} {t : Tok} (hh : A.handled = none) (hb : x.length + 1 < scanBound) :
    wpAny (model P w) A (Builtin.«set.__init__» ⟨[.ref s.heap.objs.size, .str x t], []⟩) (fun f s2 => f = .done (.ret .none) ∧ Left P w s (x.cps.toList.map fun c => (⟨#[c]⟩ : Str)) s2) E { s with heap := s.heap.push (fresh w) } := by
  have hsz : (x.cps.toList.map fun c => (⟨#[c]⟩ : Str)).length = x.cps.size := by rw [List.length_map, Array.length_toList]
  have hx : x.length = x.cps.size := rfl
  have hv : ∀ (i : Nat) (v : Value), SignAt x i v → ∃ k t, (x.cps.toList.map fun c => (⟨#[c]⟩ : Str))[i]? = some k ∧ v = .str k t := fun i v ⟨c, u, q, e⟩ => by
    refine ⟨⟨#[c]⟩, u, ?_, e⟩
    rw [List.getElem?_map, Array.getElem?_toList, q] <;> rfl
  have hS : (s.heap.push (fresh w)).get? s.heap.objs.size = some (fresh w) := Heap.get?_push_size _ rfl
  have hT : Shared.TypeIs { s with heap := s.heap.push (fresh w) } (.ref s.heap.objs.size) "set" := ⟨_, hS, rfl⟩
  have hTx : Shared.TypeIs { s with heap := s.heap.push (fresh w) } (.str x t) "str" := typeIs_str _ x t
  have f1 := PySem.F.sub_str_set
  have f2 := PySem.F.sub_str_frozenset
  have f3 : (Value.type "str" == Value.type "dict") = false := by decide
  have z1 : (s.heap.push (fresh w)).objs.size = s.heap.objs.size + 1 := Heap.size_push ..
  unfold Builtin.«set.__init__» noKeywords Builtin.Frozenset.updateFrom
  generalize ePI : pyIter = PI
  wp_walk
  subst ePI
  refine wpAny_pyIter_str fun o St W st => ?_
  refine wpAny_bind (wpAny_runValue ?_)
  refine fill ((W _ (by simp [hh])).toS) s.heap.objs.size (by rw [z1]; simp) _ hsz.symm (by rw [hsz, ← hx]; exact hb) hv (x.cps.size - 0) 0 _ rfl (Nat.zero_le _)
    st ⟨[], at_fresh (Heap.get?_push_of_some _ hS), Nat.le_refl _, fun k => by simp⟩ fun s' m mv hA mem hm => ?_
  show wpAny _ _ _ _ _ _
  refine wpAny_pure ?_
  show wpAny _ _ (ret Value.none) _ _ _
  refine wpAny_pure ⟨rfl, left_of (wr := [_]) rfl ?_ ?k1 ?e1 ?e2 ?e3 mv hA mem (by rw [hsz]; exact hm)⟩
  case k1 => exact fun b o e => Heap.get?_push_of_some _ (Heap.get?_push_of_some _ e)
  case e1 => rfl
  case e2 => rfl
  case e3 => rfl
  intro b q
  rw [List.mem_singleton.mp q]
  show _ ≤ (s.heap.push (fresh w)).objs.size
  rw [z1]
  exact Nat.le_succ _

/-! ### sorted(set) -/
theorem texts_of {es : List (Int × Value)} (el : ElemsOf (strKind P w) es) : ∀ vs : List Value, (∀ v ∈ vs, v ∈ es.map (·.2)) → ∃ ks : List Str, StrsAre vs ks ∧ (∀ k, k ∈ ks ↔ ∃ v ∈ vs, (strKind P w).is k v = true) ∧ ks.length = vs.length
  | [], _ => ⟨[], .nil, fun k => by simp, rfl⟩
  | v :: vs, h => by
    obtain ⟨ks, h1, h2, h3⟩ := texts_of el vs fun u q => h u (List.mem_cons_of_mem _ q)
    obtain ⟨e, he, ev⟩ := List.mem_map.mp (h v List.mem_cons_self)
    obtain ⟨⟨k, hk, _⟩, _⟩ := el e he
    rw [ev] at hk
    obtain ⟨t, rfl⟩ := Value.isStrOf_shape hk
    refine ⟨k :: ks, .cons k t h1, fun j => ?_, by rw [List.length_cons, List.length_cons, h3]⟩
    rw [List.mem_cons, h2 j]
    constructor
    · rintro (q | ⟨u, hu, q⟩)
      · exact ⟨_, List.mem_cons_self, by rw [q]; exact hk⟩
      · exact ⟨u, List.mem_cons_of_mem _ hu, q⟩
    · rintro ⟨u, hu, q⟩
      rcases List.mem_cons.mp hu with z | z
      · rw [z] at q
        exact .inl ((strKind P w).inj _ _ _ q hk)
      · exact .inr ⟨u, z, q⟩
theorem sorted_at {a : Addr} {l : List Str} {Q : Value → Shared → Prop} (R : At P w s.heap a l) (hh : A.handled = none) (h64 : l.length < 64)
    (hQ : ∀ s' p (out : Array Value) (c : Nat) (ys : List Str), (∀ b o, s.heap.get? b = some o → s'.heap.get? b = some o) → s'.gens = s.gens → s'.os = s.os → s.heap.objs.size ≤ p →
      s'.heap.get? p = some (seqObj "list" out c) → StrsAre out.toList ys → ys.Perm l → sortedS ys = true → Q (.ref p) s') :
    wpAny (model P w) A (call (.builtin "sorted") [.ref a]) Q E s := by
  obtain ⟨⟨es, ep, t⟩, ho, ok⟩ := R
  have ft : t.fits es.size = true := ok.tx.fit
  have z : es.size = l.length := ok.tx.sz
  have sb : es.size < scanBound := by
    unfold scanBound
    omega
  refine Calls.call_function_entry kind_sorted plain_sorted entry_sorted (args_sorted1 _) ?_
  unfold Builtin.«sorted»
  refine wpAny_bind (m := checkCount "sorted" 1 1 _) (wpAny_pure ?_)
  refine wpAny_bind (collect_set (A := A.in1) hh ⟨_, ho, rfl, rfl⟩ ft sb ok.up ok.led fun s1 vs k1 hz g1 o1 pm => ?_)
  obtain ⟨ks, hS, mem, hlen⟩ := texts_of ok.tx.el vs fun v hv => pm.mem_iff.mp hv
  have vl : vs.length = l.length := by rw [pm.length_eq, List.length_map, Array.length_toList]; exact z
  have pk : ks.Perm l := perm_of_sub l ks ok.nd (fun k hk => by
    obtain ⟨e, he, q⟩ := (ok.tx.mem k).mp hk
    exact (mem k).mpr ⟨e.2, pm.mem_iff.mpr (List.mem_map.mpr ⟨e, he, rfl⟩), q⟩) (by omega)
  refine wpAny_bind (wpAny_newList ?_ (by rw [vl, sizeLine_eq]; omega))
  have hoL : (s1.heap.push (seqObj "list" vs.toArray 0)).get? s1.heap.objs.size = some (seqObj "list" vs.toArray 0) := Heap.get?_push_size _ rfl
  refine wpAny_bind (wpAny_holding (wpAny_call_entry slot_list_sort ⟨_, hoL, rfl⟩ entry_list_sort
    (list_sort_treeK strKind_oneLt hoL hS.keysOf (fun v₁ v₂ rest e => keyKind_strs (by rw [← e]; exact hS)) (by rw [vl]; exact h64) fun st' hp hs => ?_) (args_list_sort _)))
  obtain ⟨ys, y1, y2, y3⟩ := sorted_out_str hS hp hs
  obtain ⟨c, hc⟩ := sortedHeap_at (vs := vs) (out := Array.map (fun x => x.snd) (arrOf st')) hoL
  refine ⟨_, rfl, wpAny_pure ⟨_, rfl, hQ _ s1.heap.objs.size _ c ys (fun b u e => ?_) g1 o1 hz hc y1 (y2.trans pk) y3⟩⟩
  have q := k1 b u e
  have lt := Heap.lt_size q
  show (sortedHeap (s1.heap.push (seqObj "list" vs.toArray 0)) s1.heap.objs.size vs _).get? b = some u
  rw [sortedHeap_old (Nat.ne_of_lt lt) (by rw [Heap.size_push]; exact Nat.lt_succ_of_lt lt)]
  exact Heap.get?_push_of_some _ q
end

/-! ### over the layer -/
def SetTx (P : Program) (w : World) (a : Addr) (l : List Str) : HO := .ext fun h => At P w h a l
theorem setTx_new {P : Program} {w : World} {H : Hp} {h : Heap} {a : Addr} {l : List Str} (R : At P w h a l) : ObjOk P w H h a (SetTx P w a l) := by
  have ⟨D, hD, _⟩ := R
  exact ⟨R, ⟨_, hD⟩, fun h1 h2 p k => At.move p k⟩
section
variable {X : Cx}
/-- set(xs), xs a list of texts -/
def rSetL (K : PySem.W.Frag) (P : Program) (w : World) : List V → Hp → VK → Prop := fun xs H Q => ∃ (l : Addr) (ss : List Str), xs = [V.ref l] ∧ SqL K H l (ss.map V.str) ∧ ss.length + 1 < scanBound ∧
  ∀ (a : Addr) (ls : List Str), H a = none → ls.Nodup → (∀ k, k ∈ ls ↔ k ∈ ss) → ls.length ≤ ss.length → Q (.ref a) (upd H a (SetTx P w a ls))
theorem At.nd {P : Program} {w : World} {h : Heap} {a : Addr} {l : List Str} (x : At P w h a l) : l.Nodup := by
  obtain ⟨D, _, o⟩ := x
  exact o.nd
theorem cr_setL (hc : X.calm = true) : CallR X (.type "set") (rSetL X.K X.prog X.w) := by
  intro pins s σ H xs us Q I r h
  obtain ⟨l, ss, rfl, hs, hb, q⟩ := h
  obtain ⟨its, rv, hl, _⟩ := I.list hs
  rw [Vals.ref1 r]
  have hn : H s.heap.objs.size = none := I.hok.fresh (Nat.le_refl _)
  refine call_set_of (xs := ss) (fun A' e => init_list (e.trans (I.ok.hd hc)) hl.isList rv.strs hb) fun s' L => ?_
  obtain ⟨h', tk, ls, rfl, hA, mem, hlen, kp⟩ := L
  exact ⟨.ref s.heap.objs.size, upd H s.heap.objs.size (SetTx X.prog X.w s.heap.objs.size ls), I.laid (t' := tk) kp (Nat.le_refl _) (setTx_new hA), rfl, q _ ls hn hA.nd mem hlen⟩
def signs (x : Str) : List Str := x.cps.toList.map fun c => (⟨#[c]⟩ : Str)
/-- set(x), x a text -/
def rSetT (P : Program) (w : World) : List V → Hp → VK → Prop := fun xs H Q => ∃ (x : Str), xs = [V.str x] ∧ x.length + 1 < scanBound ∧
  ∀ (a : Addr) (ls : List Str), H a = none → ls.Nodup → (∀ k, k ∈ ls ↔ k ∈ signs x) → ls.length ≤ x.length → Q (.ref a) (upd H a (SetTx P w a ls))
theorem cr_setT (hc : X.calm = true) : CallR X (.type "set") (rSetT X.prog X.w) := by
  intro pins s σ H xs us Q I r h
  obtain ⟨x, rfl, hb, q⟩ := h
  obtain ⟨t, rfl⟩ : ∃ t, us = [Value.str x t] := by
    cases r with
    | cons r1 r2 =>
      cases r2
      obtain ⟨t, rfl⟩ := r1
      exact ⟨t, rfl⟩
  have hn : H s.heap.objs.size = none := I.hok.fresh (Nat.le_refl _)
  refine call_set_of (xs := x.cps.toList.map fun c => (⟨#[c]⟩ : Str)) (fun A' e => init_text (e.trans (I.ok.hd hc)) hb) fun s' L => ?_
  obtain ⟨h', tk, ls, rfl, hA, mem, hlen, kp⟩ := L
  rw [List.length_map, Array.length_toList] at hlen
  exact ⟨.ref s.heap.objs.size, upd H s.heap.objs.size (SetTx X.prog X.w s.heap.objs.size ls), I.laid (t' := tk) kp (Nat.le_refl _) (setTx_new hA), rfl, q _ ls hn hA.nd mem hlen⟩
/-- sorted(found) of texts, fewer than 64 -/
def rSortTx (P : Program) (w : World) : List V → Hp → VK → Prop := fun vs H Q => ∃ (a : Addr) (l : List Str), vs = [V.ref a] ∧ H a = some (SetTx P w a l) ∧ l.length < 64 ∧
  ∀ (ys : List Str) (p : Addr), ys.Perm l → sortedS ys = true → H p = none → Q (.ref p) (upd H p (.lst (ys.map V.str)))
theorem cr_sortTx (hc : X.calm = true) : CallR X (.builtin "sorted") (rSortTx X.prog X.w) := by
  intro pins s σ H vs us Q I r h
  obtain ⟨a, l, rfl, ha, h64, q⟩ := h
  have R : At X.prog X.w s.heap a l := (I.hok a _ ha).1
  rw [Vals.ref1 r]
  refine sorted_at R (I.ok.hd hc) h64 fun s' p out c ys k g o hp hg hi pm so => ?_
  have hlen : (ys.map V.str).length ≤ sizeLine := by
    rw [List.length_map, pm.length_eq, sizeLine_eq]
    omega
  have hn : H p = none := I.hok.fresh hp
  have J : Inv X pins σ (upd H p (.lst (ys.map V.str))) { s with heap := s'.heap, gens := s'.gens, drawn := s'.drawn, toks := s'.toks } :=
    I.call (ch := []) (Un.laid k hp hn) (I.hok.laid k hp ⟨hlen, out.toList, c, vals_of_strs hi, hg⟩) (by rw [g]; exact I.bare) (fun _ z => nomatch z)
  have e : s' = { s with heap := s'.heap, gens := s'.gens, drawn := s'.drawn, toks := s'.toks } := by
    cases s'
    cases s
    cases o
    rfl
  rw [e]
  exact ⟨.ref p, _, J, rfl, q ys p pm so hn⟩
end
end TX
namespace DW
open PySem PySem.Spec PyProof.Rows L2
def topS (i : Nat) : Stmt := PySem.Challenge.pw_downwords_k22_error_fields.main.body.getD i (.Pass ⟨0, 0, 0, 0⟩)
abbrev sBegin : Stmt := topS 18
abbrev sDraw : Stmt := topS 19
abbrev sPick : Stmt := topS 20
abbrev sLKinds : Stmt := topS 21
abbrev sLaw : Stmt := topS 22
end DW
/-! an own error whose __init__ begins with super().__init__(..) -/
namespace EX
open PySem PySem.Spec PyProof.Rows L2 NdefX
set_option autoImplicit false
/-- what the written part says of the class, its __init__ and the cell of its class -/
structure SupC (P : Program) (K : PySem.W.Frag) (C fI cc : Addr) (F : NF) : Prop where
  oex : OexC K C
  cl : F.cl = [(("__class__" : Str), cc)]
  cd : PySem.W.codeIn K (.ref F.c) F.qual = true
  code : ∃ (ccl : Value) (cdd : Option Addr) (vs : Array Value) (ccs : Array (Option Value)) (file : Str) (tf : Tok), K.lookup F.c = some (⟨ccl, cdd, .fields vs, ccs⟩ : Obj) ∧ vs[2]? = some (Value.str file tf) ∧ ((P.main.file : Str) == file) = true
  cell : ∃ (cl : Value) (cld : Option Addr) (csl : Array (Option Value)), K.lookup cc = some (⟨cl, cld, .cell (some (.ref C)), csl⟩ : Obj)
  top : (P.main.scope.names.lookup ("super" : Str)).isSome = false
  opq : PySem.W.nsIn K cStatics "thirdparty.any" = some none
  ini : PySem.W.ks_superIn K C C "__init__" = some (some (.builtin "ValueError.__init__"))
  ve : PySem.W.subIn K (.ref C) (.type "ValueError") = some true
  own : PySem.W.mroIn K C (.ref C) = some true
section
variable {X : Cx} {pins : List (Addr × Obj)} {σ : L2.St} {H : Hp} {s : Shared}
/-- the bound __init__ is called -/
theorem call_mw {A : Around} {E : Value → Shared → Prop} {a C u : Addr} {us : List Value} {Q : Value → Shared → Prop} (T : OexC X.K C) (I : Inv X pins σ H s) (e : H a = some (exo a C none)) (hu : s.heap.get? u = some (PySem.W.kxs_mw "ValueError.__init__" a)) (hl : us.length ≤ sizeLine) (h : ∀ s', Inv X pins σ H s' → Q .none s') :
    wpAny (model X.prog X.w) A (call (.ref u) us) Q E s := by
  obtain ⟨nm, q, N, bs, bm, sn, sub, ab, col, dd, k0, k1, k2, k3, k5, hC, hbm⟩ := T.cls
  have hC' := I.kIn _ _ hC
  obtain ⟨t1, ho⟩ := exo_at I.hok e
  obtain ⟨hp, g, d, t, os⟩ := s
  refine wpAny_call (codeAny_of_tree ?_)
  show wpAny _ A.in1 (callAny (.ref u) ⟨us, []⟩) _ _ _
  simp only [callAny]
  refine wpAny_bind (wpAny_load hu ?_)
  simp only [PySem.W.kxs_mw, show (Value.type "method-wrapper" == Value.type "method" || Value.type "method-wrapper" == Value.type "builtin_function_or_method" || Value.type "method-wrapper" == Value.type "method-wrapper") = true by decide, if_true]
  refine PySem.W.KFB.if_so (by decide) ?_
  refine wpAny_bind (PySem.W.check_bound_init F.excBase_ValueError.toExcCallFacts hC' ho rfl ?_)
  refine wpAny_bind (wpAny_pure (wpAny_pure ?_))
  refine ⟨plainId_quiet F.excBase_ValueError.init.plain _, codeAny_builtin F.excBase_ValueError.initEntry ?_⟩
  refine PySem.W.exc_init_tree (cls := .ref C) (t0 := t1) (dv := none) (c2 := .none) (c3 := .none) (b4 := .bool false) ho hl fun h' k hx _ => ?_
  have J := I.write (t' := t) (x := a) (e := a) (o := exo a C none) (by rw [e]; exact True.intro) (.inl rfl) k ⟨_, hx⟩ (exo_ok hx)
  have eu : upd H a (exo a C none) = H := by
    funext b
    by_cases hb : b = a
    · rw [hb, upd_same, e]
    · rw [upd_ne hb]
  rw [eu] at J
  exact h _ J
/-- THE RULE: an __init__ of an own error, its first statement super().__init__(msg) -/
theorem sup_ok {CX : CXT} {P : Program} {w : World} {K : PySem.W.Frag} {mg : Str → Option Value} {base : Heap} {k : Nat} {C fI cc : Addr} {F : NF} {N : List Str} {fl : Str} {msg : Expr} {rest : List Stmt} {p0 p1 p2 p3 p4 : Pos} {oc doc pm ctv : Value} {od : Option Addr} {osl : Array (Option Value)} {ar : Arg} {sp : Sp} {pl : Addr → Sem Bool}
    (T : SupC P K C fI cc F) (lk : K.lookup fI = some ⟨oc, od, .func (F.fd doc pm ctv), osl⟩) (hm : mg "super" = none) (S : NScope N ["self", fl] ["__class__"] F.scope)
    (hbody : F.body = .Expr (.Call (.Attribute (.Call (.Name "super" p0) [] [] p1) "__init__" p2) [msg] [] p3) p4 :: rest)
    (hpar : (F.params.posonlyargs ++ F.params.args).head? = some ar) (har : ar.arg = "self") (hks : F.scope.names.lookup ("super" : Str) = some .globalImplicit)
    (len : ∀ vs H Q E, sp vs H Q E → vs.length = 2)
    (h : ∀ (A : Around) (outer : List Env) (s : Shared) (H : Hp) (vs : List V) (Q : VK) (E : XK), Room k (A.deeper (envF F fI s.heap.objs.size)) → sp vs H Q E →
      ∃ (a : Addr) (y : V) (tm : TE) (t2 : TS), vs = [.ref a, y] ∧ H a = some (exo a C none) ∧ PE (ncx CX P w K mg base N F fI A outer s H E) msg tm ∧ PSs (ncx CX P w K mg base N F fI A outer s H E) rest t2 ∧
        tm (startF N vs [none]) H fun v H1 => [v].length = 1 ∧ H1 a = some (exo a C none) ∧ t2 { nx := fun _ H' => Q .non H', rt := Q } (startF N vs [none]) H1)
    (he : ∀ L : Addr, eval (.Call (.Attribute (.Call (.Name "super" p0) [] [] p1) "__init__" p2) [msg] [] p3) (envF F fI L) = (do
      let ov ← attributeBase (.Call (.Name "super" p0) [] [] p1) "__init__" (envF F fI L) (eval (.Call (.Name "super" p0) [] [] p1) (envF F fI L))
      standAt p2.atName
      let (f, first) ← holding [ov] (getMethod ov "__init__" (pl L))
      callWith p3 f first (backTo p3 (starEach [msg] (envF F fI L))) []))
    (hst : ∀ L : Addr, starEach [msg] (envF F fI L) = (false, eval msg (envF F fI L)) :: starEach [] (envF F fI L))
    (hsw : ∀ L : Addr, swapsWith (.Call (.Attribute (.Call (.Name "super" p0) [] [] p1) "__init__" p2) [msg] [] p3) none p4.line (envF F fI L) = pure false) :
    FnOk P w K mg base CX (k + 1) fI (F.fd doc pm ctv) ["self", fl] sp := by
  refine ⟨len, fun A outer s H args us vs Q E hr e0 hb r hsp => ?_⟩
  have hl := len _ _ _ _ hsp
  have KX : K.In s.heap := e0.mod.kin.keeps fun b o e => (e0.bs b o e).1
  have lim : s.heap.NoLimit := e0.mod.nolimit.keeps fun b o e => (e0.bs b o e).1
  obtain ⟨ccl, cdd, vsC, ccs, file, tf, hcode, hvs, hfile⟩ := T.code
  obtain ⟨cl1, cld, csl, hcell⟩ := T.cell
  have hcl : F.cl.lookup ("__class__" : Str) = some cc := by rw [T.cl]; rfl
  have hclA : ∀ y c, F.cl.lookup y = some c → y = ("__class__" : Str) ∧ c = cc := fun y c e => by
    rw [T.cl] at e
    by_cases hy : y = ("__class__" : Str)
    · subst hy
      exact ⟨rfl, (Option.some.inj e).symm⟩
    · have hb : (y == ("__class__" : Str)) = false := beq_false_of_ne hy
      simp only [List.lookup, hb] at e
      cases e
  have CA : CellsAt F.cl ["__class__"] [none] s.heap H := {
    len := rfl
    all := fun y c e => by
      obtain ⟨_, rfl⟩ := hclA y c e
      have hbk := e0.mod.kin _ _ hcell
      exact ⟨(e0.bs _ _ hbk).2, _, _, (e0.bs _ _ hbk).1, rfl⟩
    inj := fun x y c e1 e2 => (hclA x c e1).1.trans (hclA y c e2).1.symm
    has := fun i y e => by
      cases i with
      | zero =>
        have ey : y = ("__class__" : Str) := (Option.some.inj e).symm
        subst ey
        exact ⟨cc, hcl, fun v ev => by cases ev⟩
      | succ i => cases e }
  refine codeAny_call_function hr.depth (KX _ _ lk) rfl S.co S.gen rfl (PySem.W.codeRec_of KX T.cd) (hb _ _ _ _ ?_)
  refine wpAny_newFunctionEnv S.nocell (fun ⟨n, _⟩ hy => S.par n (List.of_mem_zip hy).1) (fun h₁ hns hsb => ⟨lim.fresh _ hsb, ?_⟩) S.kind
  show codeAny _ _ (.func F.body (envF F fI s.heap.objs.size)) _ _
  refine ks_codeAny_funcAt ?_
  have kp : ∀ b o, s.heap.get? b = some o → h₁.get? b = some o := fun b o e => hsb.extBut b o (Nat.ne_of_lt (Heap.lt_size e)) (Heap.get?_push_of_some _ e)
  obtain ⟨a, y, tm, t2, ev, ha, hm1, h2, hq⟩ := h A outer s H vs Q E (hr.deeper _) hsp
  have I : Inv (ncx CX P w K mg base N F fI A outer s H E) [] (startF N vs [none]) H { s with heap := h₁, toks := s.toks + (([("self" : Str), fl] : List Str).zip us).length } := inv_startN S hr.hd e0 hl r CA hns kp
  generalize hs1 : ({ s with heap := h₁, toks := s.toks + (([("self" : Str), fl] : List Str).zip us).length } : Shared) = s1 at I ⊢
  have KX1 : K.In s1.heap := I.kIn
  obtain ⟨nm, q, NN, bs, bm, sn, sub, ab, col, dd, k0, k1, k2, k3, k5, hC, hbm⟩ := T.oex.cls
  have hC1 := KX1 _ _ hC
  obtain ⟨t1, ho⟩ := exo_at I.hok ha
  have hne : a ≠ C := fun e => by
    rw [e, hC1] at ho
    cases ho
  rw [show execs F.body (envF F fI s.heap.objs.size) = execs (.Expr (.Call (.Attribute (.Call (.Name "super" p0) [] [] p1) "__init__" p2) [msg] [] p3) p4 :: rest) (envF F fI s.heap.objs.size) by rw [hbody]]
  refine ks_wpAt_execs_cons (ks_wpAt_Expr_any (ks_wpAt_MethodCall (pl := pl s.heap.objs.size) (ks_wpAt_super_base (env := envF F fI s.heap.objs.size) hks (S.frk "__class__" (List.mem_singleton.mpr rfl)) (by decide) rfl (KX1 _ _ lk) rfl hpar rfl (KX1 _ _ hcode) rfl hvs hfile T.top ?_) (he _)) I.quiet (hsw _))
  obtain ⟨mb, hb1, hb2⟩ := I.mod.blt
  refine PySem.W.ks_loadName_global S.kind hks (PySem.Calls.loadGlobal_builtin (I.mod.glob.keeps I.bk) hm (hb1.keeps I.bk) ((hb2 "super" (by decide)).trans (by decide +kernel : bootBuiltins "super" = some (.type "super"))) ⟨rfl, ?_⟩)
  refine wpAny_loadName_free S.kind (S.frk "__class__" (List.mem_singleton.mpr rfl)) hcl ⟨_, KX1 _ _ hcell, rfl⟩ ?_
  rw [har]
  have hself : F.scope.names.lookup ("self" : Str) = some .local := S.par "self" (List.mem_cons_self ..)
  obtain ⟨m, hnsM, hsl⟩ := I.loc
  have hN0 : N[(0 : Nat)]? = some ("self" : Str) := by
    have e := S.pre
    cases N with
    | nil => cases e
    | cons n N =>
      have e2 : n :: N.take 2 = ("self" : Str) :: [fl, "__class__"] := e
      rw [List.cons.injEq] at e2
      rw [e2.1]
      rfl
  have hms : m ("self" : Str) = some (.ref a) := by
    obtain ⟨u, ru, lu⟩ := hsl 0 "self" (.ref a) hN0 (by rw [ev]; rfl) (.inl hself)
    obtain rfl : u = Value.ref a := ru
    rcases lu with lu | ⟨lu, _⟩
    · exact lu.2
    · rw [show (ncx CX P w K mg base N F fI A outer s H E).env.kindOf "self" = some .local from hself] at lu
      rcases lu with z | z <;> cases z
  refine wpAny_loadName_local S.kind hself hnsM hms ?_
  obtain ⟨hp1, g1, d1, tk1, os1⟩ := s1
  refine ks_wpAny_isType_cls hC1 rfl ⟨rfl, ?_⟩
  refine ks_wpAny_call_super hC1 rfl ho rfl (fun c e => by cases e) (PySem.W.looks_mroIn KX1 T.own) (fun h' e kk => ?_)
  have I2 := I.kept (t' := tk1) kk
  have KX2 : K.In h' := I2.kIn
  have hC2 := KX2 _ _ hC
  have ho2 := kk _ _ ho
  have hcls : PySem.W.clsIn K C = some { name := nm, bases := bs, mro := .ref C :: bm, ns := NN, qualname := q, hasDict := true, slotNames := sn, subclasses := sub, abstract := ab, collection := col, hasDel := false } := by
    unfold PySem.W.clsIn
    rw [hC] <;> rfl
  have hini := T.ini
  unfold PySem.W.ks_superIn at hini
  rw [hcls, Option.bind_some] at hini
  have Ia : PySem.W.InstAt h' a _ C none := ⟨ho2, rfl, rfl, trivial⟩
  refine PySem.W.kxs_getMethod PySem.W.kxs_ValueError e (PySem.W.looks_opaque KX2 T.opq) (l₀ := .ref C :: bm) (fun A Q E s k q => wpAny_bind ((PySem.W.looks_clsIn KX2 hcls) A _ E s k (wpAny_pure q))) rfl KX2 hini (Ia.type.andThen (PySem.W.looks_subIn KX2 T.ve)) hne (by decide) ?_
  have kp3 : ∀ b o, h'.get? b = some o → (h'.push (PySem.W.kxs_mw "ValueError.__init__" a)).get? b = some o := fun b o e => Heap.get?_push_of_some _ e
  have I3 := I2.kept (h' := h'.push (PySem.W.kxs_mw "ValueError.__init__" a)) (t' := tk1 + 1) kp3
  have hu3 : (h'.push (PySem.W.kxs_mw "ValueError.__init__" a)).get? h'.objs.size = some (PySem.W.kxs_mw "ValueError.__init__" a) := Heap.get?_push_at rfl rfl
  have I4 : Inv (ncx CX P w K mg base N F fI A outer s H E) [(h'.objs.size, PySem.W.kxs_mw "ValueError.__init__" a)] (startF N vs [none]) H _ := I3.pins_of fun p hp => by
    rw [List.mem_singleton.mp hp]
    exact ⟨hu3, I2.hok.fresh (Nat.le_refl _), Nat.ne_of_gt I2.lt, I2.nofs (Nat.le_refl _), fun v z => by cases z⟩
  have ha1 : PA (ncx CX P w K mg base N F fI A outer s H E) [msg] _ := pa_cons hm1 pa_nil (hst _)
  have hst' := hst s.heap.objs.size
  refine PySem.W.kxs_callWith (i := "ValueError.__init__") (x := a) (by rw [hst']; rfl) ?_
  rw [hst']
  refine PySem.Calls.evalArgs_plain ?_
  have hrun := ha1.run p3 _ _ (startF N vs [none]) H (fun vs' H1 => vs'.length = 1 ∧ H1 a = some (exo a C none) ∧ t2 { nx := fun _ H' => Q .non H', rt := Q } (startF N vs [none]) H1) I4 ?_
  · have hst2 : backTo p3 (starEach [msg] (ncx CX P w K mg base N F fI A outer s H E).env) = backTo p3 ((false, eval msg (envF F fI s.heap.objs.size)) :: starEach [] (envF F fI s.heap.objs.size)) := congrArg (backTo p3) hst'
    rw [hst2] at hrun
    refine wpAny_mono hrun (fun ws s2 hw => ?_) fun e s' he => he
    obtain ⟨vs', H1, J, rv, hlen, ha2, hq2⟩ := hw
    have hu := (J.pin _ (List.mem_append_right _ (List.mem_singleton.mpr rfl))).1
    refine ⟨hu, ?_⟩
    have J0 : Inv (ncx CX P w K mg base N F fI A outer s H E) [] (startF N vs [none]) H1 s2 := J.pins_of fun p hp => by cases hp
    refine call_mw T.oex J0 ha2 hu (by
      show ws.length ≤ _
      rw [← rv.length, hlen, sizeLine_eq]; decide) fun s3 J3 => ?_
    refine wpAt_of_wpAny ?_
    refine wpAny_mono (h2.run [] s3 _ H1 _ J3 hq2) (fun fl s' hs => ?_) fun e s' hs => hs
    have fin : ∀ {σ' : L2.St} {H' : Hp} {v : V} {u : Value}, Inv (ncx CX P w K mg base N F fI A outer s H E) [] σ' H' s' → L2.RelV v u → Q v H' → CE outer P w H s Q u s' :=
      fun {σ' H' v u} J rv q => ⟨v, H', J.os, J.bare, J.base, J.hok, rv, q⟩
    cases fl with
    | ret u =>
      obtain ⟨v, σ', H', J, rv, q⟩ := hs
      exact fin J rv q
    | next =>
      obtain ⟨σ', H', J, q⟩ := hs
      exact fin (v := V.non) (u := Value.none) J rfl q
    | brk =>
      obtain ⟨_, _, _, q⟩ := hs
      exact False.elim q
    | cont =>
      obtain ⟨_, _, _, q⟩ := hs
      exact False.elim q
  · exact hq
end
end EX
/-! own errors: made, their fields, isinstance of them -/
namespace EX
open PySem PySem.Spec PyProof.Rows L2 NdefX
set_option autoImplicit false
section
variable {X : Cx}
/-- {x}: a text, an int or None, as a text that is not told -/
def MsgOk (x : V) : Prop := (∃ y : Str, x = .str y ∧ y.length ≤ 1000) ∨ (∃ i : Int, x = .int i ∧ i.natAbs.log2 < 1920) ∨ x = .non
def tFmtN (te : TE) : TE := fun σ H Q => te σ H fun x H1 => MsgOk x ∧ ∀ y : Str, y.length ≤ 10000 → Q (.str y) H1
theorem int_text {i : Int} (h : i.natAbs.log2 < 1920) : (Str.ofString (toString i)).length ≤ 10000 := by
  have e := int_text_length_le (k := 1920) (by decide) h
  rw [PySem.ofString_length]
  omega
theorem pe_fmtN {e : Expr} {te : TE} {pos : Pos} (he : PE X e te) : PE X (.FormattedValue e (-1) none pos) (tFmtN te) := by
  refine ⟨fun pins s σ H Q I h => ?_⟩
  refine wpAny_FormattedValue_plain (thn (he.run pins s σ H _ I h) fun v s1 hv => ?_)
  obtain ⟨x, H1, I1, r1, q, k⟩ := hv
  rcases q with ⟨y, rfl, hz⟩ | ⟨i, rfl, hz⟩ | rfl
  · obtain ⟨t, rfl⟩ := r1
    have q := k y (by omega)
    exact wpAny_formatField_str ⟨.str y, H1, I1, ⟨t, rfl⟩, q⟩ ⟨.str y, H1, I1.tok _, ⟨_, rfl⟩, q⟩ (by rw [sizeLine_eq]; omega)
  · obtain ⟨t, rfl⟩ := r1
    exact wpAny_formatField_int hz ⟨.str (toString i), H1, I1.tok _, ⟨_, rfl⟩, k _ (int_text hz)⟩
  · obtain rfl : v = Value.none := r1
    exact wpAny_formatField_none ⟨.str "None", H1, I1.tok _, ⟨_, rfl⟩, k "None" (by decide)⟩
/-- one argument, its end weakened -/
theorem pa_one {e : Expr} {te : TE} (he : PE X e te) (hs : starEach [e] X.env = (false, eval e X.env) :: starEach [] X.env := by rfl) : PA X [e] (fun σ H Q => ∃ Q0 : VK, te σ H Q0 ∧ ∀ y H1, Q0 y H1 → Q [y] H1) := by
  have h1 : PA X [e] _ := pa_cons he pa_nil hs
  refine ⟨fun pos pins s σ H Q I h => ?_⟩
  obtain ⟨Q0, h0, k⟩ := h
  have h2 := h1.run pos pins s σ H (fun vs H1 => ∃ y, vs = [y] ∧ Q0 y H1) I ?_
  · refine thn h2 fun us s1 hh => ?_
    obtain ⟨vs, H1, J, rv, y, rfl, q⟩ := hh
    exact ⟨[y], H1, J, rv, k y H1 q⟩
  · have e2 : (fun (x : V) (H1 : Hp) => ∃ y, [x] = [y] ∧ Q0 y H1) = Q0 := by
      funext x H1
      exact propext ⟨fun ⟨y, e, q⟩ => by cases e; exact q, fun q => ⟨x, rfl, q⟩⟩
    show te σ H (fun (x : V) (H1 : Hp) => ∃ y, [x] = [y] ∧ Q0 y H1)
    rw [e2]
    exact h0
end
/-! ### the class -/
def oexB (K : PySem.W.Frag) (C : Addr) : Bool := match K.lookup C with
  | some ⟨.type "type", _, .cls cd, sl⟩ => (match cd.mro, sl.toList with
    | .ref C' :: bm, [_, _, _, _, some (.builtin n), _] => C' == C && n == "ValueError.__new__" && !cd.hasDel && cd.hasDict && PySem.HandSPX.refsVE bm
    | _, _ => false)
  | _ => false
theorem oexB_ok {K : PySem.W.Frag} {C : Addr} (q : oexB K C = true) : ∃ nm q N bs bm sn sub ab col dd k0 k1 k2 k3 k5, K.lookup C = some (excClassObj nm q C N bs bm true sn sub ab col dd k0 k1 k2 k3 k5 "ValueError.__new__") ∧ PySem.HandSPX.refsVE bm = true := by
  unfold oexB at q
  split at q
  · rename_i dd cd sl ho
    split at q
    · rename_i C' bm k0 k1 k2 k3 n k5 hm hs
      simp only [Bool.and_eq_true, beq_iff_eq, Bool.not_eq_true'] at q
      obtain ⟨⟨⟨⟨rfl, rfl⟩, hdel⟩, hh⟩, ht⟩ := q
      obtain ⟨nm, bs, mro, ns, qn, hd, sn, sub, ab, col, del⟩ := cd
      dsimp only at hm hdel hh
      subst hm hdel hh
      have hsl : sl = #[k0, k1, k2, k3, some (.builtin "ValueError.__new__"), k5] := by
        obtain ⟨l⟩ := sl
        simp only at hs
        rw [hs]
      subst hsl
      exact ⟨nm, qn, ns, bs, bm, sn, sub, ab, col, dd, k0, k1, k2, k3, k5, ho, ht⟩
    · cases q
  · cases q
/-- an own error's class -/
structure ErrC (K : PySem.W.Frag) (C : Addr) : Prop where
  oex : OexC K C
  xf : XfC K C
  ha : PySem.W.findIn K (.ref C) "__class__" = some (some (.builtin "object.__class__"))
  hn : PySem.W.specialIn K (.builtin "object.__class__") "__get__" = some (some (.builtin "getset_descriptor.__get__"))
  ht : PySem.W.takesIn K (.builtin "object.__class__") = some true
  hm : PySem.W.mroIn K C (.type "object") = some true
def errB (K : PySem.W.Frag) (C : Addr) : Bool := oexB K C && (decide (PySem.W.findIn K (.ref C) "__setattr__" = some (some (.builtin "object.__setattr__"))) && (decide (PySem.W.subIn K (.ref C) (.type "BaseException") = some true) && (decide (PySem.W.typeIn K (.ref C) = some (.type "type")) && (PySem.W.keepIn K (.ref C) && (xfB K C &&
  (decide (PySem.W.findIn K (.ref C) "__class__" = some (some (.builtin "object.__class__"))) && (decide (PySem.W.specialIn K (.builtin "object.__class__") "__get__" = some (some (.builtin "getset_descriptor.__get__"))) && (decide (PySem.W.takesIn K (.builtin "object.__class__") = some true) && decide (PySem.W.mroIn K C (.type "object") = some true)))))))))
theorem errB_ok {K : PySem.W.Frag} {C : Addr} (h : errB K C = true) : ErrC K C := by
  unfold errB at h
  simp only [Bool.and_eq_true, decide_eq_true_eq] at h
  obtain ⟨h1, h2, h3, h4, h5, h6, h7, h8, h9, h10⟩ := h
  exact ⟨⟨oexB_ok h1, h2, h3, h4, h5⟩, xfB_ok h6, h7, h8, h9, h10⟩
/-! ### a caught error: its fields, isinstance -/
def tXfE (K : PySem.W.Frag) (a : Addr) (cls : Value) (d : Option Addr) (f : Str) (te : TE) : TE := fun σ H Q => te σ H fun x H1 => ∃ C : Addr, x = .ref a ∧ cls = .ref C ∧ ErrC K C ∧ PySem.W.findIn K (.ref C) f = some none ∧ ∃ (dd : Addr) (fs : List (Str × V)) (v : V), d = some dd ∧ H1 dd = some (.xd fs) ∧ fs.lookup f = some v ∧ Q v H1
theorem pe_xfE {X : Cx} {a : Addr} {oe : Obj} {cls : Value} {d : Option Addr} {pn : List (Addr × Obj)} {e : Expr} {te : TE} {pos : Pos} {n : Str}
    (hz : Zc cls d oe) (hf : ∃ vs, oe.data = .fields vs) (he : PE (X.suite a ((a, oe) :: pn)) e te) (hb : attributeBase e n X.env (eval e X.env) = eval e X.env := by rfl) :
    PE (X.suite a ((a, oe) :: pn)) (.Attribute e n pos) (tXfE X.K a cls d n te) := by
  refine ⟨fun pins s σ H Q I h => ?_⟩
  refine attr_of hb (thn (he.run pins s σ H _ I h) fun u s1 hh => ?_)
  obtain ⟨x, H1, I1, rx, C, ex, ec, T, hno, dd, fs, v, ed, ea, l, q⟩ := hh
  subst ex
  obtain rfl : u = Value.ref a := rx
  subst ec
  subst ed
  obtain ⟨ha, _⟩ := I1.pin (a, oe) (List.mem_append_left _ List.mem_cons_self)
  obtain ⟨vs, hd⟩ := hf
  have hx : ObjOk X.prog X.w H1 s1.heap dd (.xd fs) := I1.hok dd _ ea
  obtain ⟨mA, hns, hr⟩ := hx
  obtain ⟨od, ho, hl⟩ := lookIn_ns hns
  obtain ⟨u, hu, ru⟩ := RelO.some_of (v := v) (o := mA n) (by rw [← l]; exact hr n)
  have J : PySem.W.InstAt s1.heap a oe C (some od) := ⟨ha, hz.1, by unfold PySem.W.notCls; rw [hd] <;> rfl, by rw [hz.2]; exact ho⟩
  exact HandSPX.exc_get I1.kIn J T.xf.ga T.xf.gg T.xf.exC (PySem.W.findObj_own T.xf.hdC hno rfl (by rw [hl, hu])) (handed_of ru) ⟨v, H1, I1.tok _, ru, q⟩
theorem kit_err {K : PySem.W.Frag} {C x : Addr} {ox : Obj} {od : Option Obj} (T : ErrC K C) : PySem.W.KitX K (.ref x) (.ref C) (fun h => PySem.W.InstAt h x ox C od) := by
  have hf : PySem.W.findObj K C od "__class__" = some (.bind (.builtin "getset_descriptor.__get__") (.builtin "object.__class__")) := PySem.W.findObj_dataE (by obtain ⟨cd, hc, _⟩ := PySem.W.any_some T.xf.hdC; rw [hc]; rfl) T.ha T.hn T.ht
  exact {
    ty := fun _ _ _ I => I.type
    it := fun _ _ X _ => by
      obtain ⟨cdD, hcD, _⟩ := PySem.W.any_some T.xf.hdC
      unfold PySem.W.clsIn at hcD
      split at hcD
      · rename_i c' d' cd' sl' ho
        intro A' Q' E' s' k q
        unfold isType loadHead
        exact wpAny_bind (wpAny_loadPart (k _ _ (X _ _ ho)) (wpAny_pure q))
      · cases hcD
    ne := fun h tp dd its n sl X htp => by
      obtain ⟨cdD, hcD, _⟩ := PySem.W.any_some T.xf.hdC
      refine Bool.eq_false_iff.mpr fun q => ?_
      have e : C = tp := Value.ref.inj (beq_iff_eq.mp q)
      subst e
      unfold PySem.W.clsIn at hcD
      split at hcD
      · rename_i c' d' cd' sl' ho
        have z := (X _ _ ho).symm.trans htp
        cases z
      · cases hcD
    ca := fun X I k => PySem.W.kx_classE X I T.xf.ga T.xf.gg T.xf.exC hf T.hm k }
/-- isinstance(e, c), e the exception that the suite holds -/
def rIsX (K : PySem.W.Frag) (a : Addr) (cls : Value) (d : Option Addr) : List V → Hp → VK → Prop := fun xs H Q => ∃ (C : Addr) (c : V) (cv : Value) (b : Bool), xs = [.ref a, c] ∧ cls = .ref C ∧ ErrC K C ∧ (∀ dd, d = some dd → ∃ fs, H dd = some (.xd fs)) ∧ (∀ u, RelV c u → u = cv) ∧ PySem.W.kitOne K (.ref C) cv = some b ∧ Q (.bl b) H
theorem inst_err {X : Cx} {pins pn : List (Addr × Obj)} {σ : L2.St} {H : Hp} {s : Shared} {a C : Addr} {oe : Obj} {d : Option Addr} (I : Inv (X.suite a ((a, oe) :: pn)) pins σ H s) (hz : Zc (.ref C) d oe) (hf : ∃ vs, oe.data = .fields vs) (hd : ∀ dd, d = some dd → ∃ fs, H dd = some (.xd fs)) : ∃ od, PySem.W.InstAt s.heap a oe C od := by
  obtain ⟨hget, _⟩ := I.pin (a, oe) (List.mem_append.mpr (.inl List.mem_cons_self))
  obtain ⟨vs, hv⟩ := hf
  cases d with
  | none => exact ⟨none, hget, hz.1, by unfold PySem.W.notCls; rw [hv] <;> rfl, by rw [hz.2]; trivial⟩
  | some dd =>
    obtain ⟨fs, e⟩ := hd dd rfl
    have hx : ObjOk X.prog X.w H s.heap dd (.xd fs) := I.hok dd _ e
    obtain ⟨mA, hns, hr⟩ := hx
    obtain ⟨od, ho, hl⟩ := lookIn_ns hns
    exact ⟨some od, hget, hz.1, by unfold PySem.W.notCls; rw [hv] <;> rfl, by rw [hz.2]; exact ho⟩
theorem call_isX {X : Cx} {a : Addr} {oe : Obj} {cls : Value} {d : Option Addr} {pn : List (Addr × Obj)} (hz : Zc cls d oe) (hf : ∃ vs, oe.data = .fields vs) : CallR (X.suite a ((a, oe) :: pn)) (.builtin "isinstance") (rIsX X.K a cls d) := by
  intro pins s σ H xs us Q I r h
  obtain ⟨C, c, cv, b, rfl, rfl, T, hd, hcv, e, q⟩ := h
  cases r with
  | cons rx rr =>
    cases rr with
    | cons rt rr =>
      cases rr
      cases rx
      have ec := hcv _ rt
      subst ec
      obtain ⟨od, J⟩ := inst_err I hz hf hd
      exact PySem.W.kia_one (kit_err T) I.kIn J e (fun z => nomatch z) fun tk => ⟨.bl b, H, I.kept (t' := tk) fun _ _ z => z, rfl, q⟩
/-- isinstance(e, (c, ..)) -/
def rIsXT (K : PySem.W.Frag) (a : Addr) (cls : Value) (d : Option Addr) : List V → Hp → VK → Prop := fun xs H Q => ∃ (C t : Addr) (cs : List V) (cvs : List Value) (b : Bool), xs = [.ref a, .ref t] ∧ cls = .ref C ∧ ErrC K C ∧ (∀ dd, d = some dd → ∃ fs, H dd = some (.xd fs)) ∧ H t = some (.tup cs) ∧ (∀ us, Vals cs us → us = cvs) ∧ PySem.W.kitAny K (.ref C) cvs = some b ∧ Q (.bl b) H
theorem call_isXT {X : Cx} {a : Addr} {oe : Obj} {cls : Value} {d : Option Addr} {pn : List (Addr × Obj)} (hz : Zc cls d oe) (hf : ∃ vs, oe.data = .fields vs) : CallR (X.suite a ((a, oe) :: pn)) (.builtin "isinstance") (rIsXT X.K a cls d) := by
  intro pins s σ H xs us Q I r h
  obtain ⟨C, t, cs, cvs, b, rfl, rfl, T, hd, ht, hcv, e, q⟩ := h
  cases r with
  | cons rx rr =>
    cases rr with
    | cons rt rr =>
      cases rr
      cases rx
      cases rt
      obtain ⟨od, J⟩ := inst_err I hz hf hd
      have hx : ObjOk X.prog X.w H s.heap t (.tup cs) := I.hok t _ ht
      obtain ⟨hl, its, hv, ⟨oc, od', dt, sl⟩, ho, hc, n, hd2⟩ := hx
      dsimp only at hc hd2
      subst hc hd2
      have eI := hcv _ hv
      subst eI
      exact PySem.W.kia_tup (kit_err T) I.kIn J ho e (fun z => nomatch z) fun tk => ⟨.bl b, H, I.kept (t' := tk) fun _ _ z => z, rfl, q⟩
/-! ### an error is made -/
/-- what __init__ promises -/
def spErr (C : Addr) (fl : Str) (ok : V → Prop) : Sp := fun vs H Q _ => ∃ (a : Addr) (y : V), vs = [.ref a, y] ∧ H a = some (exo a C none) ∧ ok y ∧ ∀ dx, H dx = none → dx ≠ a → Q .non (upd (upd H dx (exd dx [(fl, y)])) a (exo a C (some dx)))
/-- C(e): the class, its dict with the one field -/
def tMkE (C : Addr) (fl : Str) (ok : V → Prop) (te : TE) : L2.St → Hp → XK → Prop := fun σ H Q => te σ H fun y H1 => ok y ∧ ∀ d, H1 d = none → Q (.ref C) (some d) (upd H1 d (.xd [(fl, y)]))
theorem pmk_err {X : Cx} {x fl : Str} {ok : V → Prop} {C fI : Addr} {fd : FuncData} {k : Nat} {e : Expr} {te : TE} {p pos : Pos} (T : ErrC X.K C) (iC : PySem.W.findIn X.K (.ref C) "__init__" = some (some (.ref fI))) (tI : PySem.W.typeIn X.K (.ref fI) = some (.type "function"))
    (F1 : FnOk X.prog X.w X.K X.mg X.base CX0 k fI fd ["self", fl] (spErr C fl ok)) (hr : Room (k + 1) X.A) (hb : Binds X.K fd ["self", fl] []) (hg : Gl X x) (hm : X.mg x = some (.ref C)) (he : PE X e te)
    (hdb : (x == ("__debug__" : Str)) = false := by decide) (hs : starEach [e] X.env = (false, eval e X.env) :: starEach [] X.env := by rfl) : PMk X (.Call (.Name x p) [e] [] pos) (tMkE C fl ok te) := by
  intro pins s σ H Q I h
  have h0 := pmk_oex (p := p) (pos := pos) T.oex iC tI F1 hr hb .nil pass0 hg hm (pa_one he hs) hdb hs (by rfl)
  refine h0 pins s σ H Q I ⟨_, h, fun y H1 ⟨oky, k⟩ => ⟨by show 1 ≤ 1000; decide, fun a na => ⟨a, y, rfl, upd_same, oky, fun dx ndx ne => ?_⟩⟩⟩
  have n1 : H1 dx = none := by
    rw [upd_ne ne] at ndx
    exact ndx
  refine ⟨rfl, dx, [(fl, y)], upd_same, (upd_ne ne).trans upd_same, n1, ?_⟩
  have eh : upd (del (upd (upd (upd H1 a (exo a C none)) dx (exd dx [(fl, y)])) a (exo a C (some dx))) a) dx (.xd [(fl, y)]) = upd H1 dx (.xd [(fl, y)]) := by
    funext b
    by_cases h1 : b = dx
    · rw [h1, upd_same, upd_same]
    · rw [upd_ne h1, upd_ne h1]
      by_cases h2 : b = a
      · rw [h2, del_same, na]
      · rw [del_ne h2, upd_ne h2, upd_ne h1, upd_ne h2]
  rw [eh]
  exact k dx n1
/-- C(), no own __init__ -/
theorem pmk_err0 {X : Cx} {x : Str} {C : Addr} {p pos : Pos} (q : PySem.W.excIn X.K C He.veBase "ValueError.__new__" = true) (T : ErrC X.K C) (hg : Gl X x) (hm : X.mg x = some (.ref C))
    (hdb : (x == ("__debug__" : Str)) = false := by decide) : PMk X (.Call (.Name x p) [] [] pos) (fun _ H Q => Q (.ref C) none H) := by
  intro pins s σ H Q I h
  refine wpAny_Call_Name_kw (ld_glob I hg hm ?_ hdb)
  refine PySem.W.callWith_K0 I.kIn T.oex.kC ?_
  obtain ⟨bm, N, nm, qn, bs, hdct, sn, sub, ab, col, dd, k0, k1, k2, k3, k5, mN, hC, hN, hni, Tl⟩ := exc_obj I.kIn q
  refine wpAny_call_exc_subT F.excBase_ValueError Tl hC hN hni (fun h' e hm => ?_) (by show 0 ≤ sizeLine; rw [sizeLine_eq]; omega)
  exact mk_of I hm (raises_own T.oex.exC T.oex.tyC) h (I.hok.gone hm.new)
end EX
/-! own errors as the top leaves them -/
namespace EX
open PySem PySem.Spec PyProof.Rows L2 NdefX
set_option autoImplicit false
/-- an error class with its __init__(self, fl) -/
structure DfE (P : Program) (K : PySem.W.Frag) (mg : Str → Option Value) (x fl : Str) (ok : V → Prop) where
  C : Addr
  fI : Addr
  fd : FuncData
  g : mg x = some (.ref C)
  T : ErrC K C
  iC : PySem.W.findIn K (.ref C) "__init__" = some (some (.ref fI))
  tI : PySem.W.typeIn K (.ref fI) = some (.type "function")
  no : PySem.W.findIn K (.ref C) fl = some none
  b : Binds K fd ["self", fl] []
  F : ∀ (w : World) (base : Heap), FnOk P w K mg base CX0 1 fI fd ["self", fl] (spErr C fl ok)
/-- an error class without an __init__ -/
structure DfE0 (K : PySem.W.Frag) (mg : Str → Option Value) (x : Str) where
  C : Addr
  g : mg x = some (.ref C)
  T : ErrC K C
  q : PySem.W.excIn K C He.veBase "ValueError.__new__" = true
/-! ### the two bodies -/
theorem app_len (a b : Str) : (a ++ b).length = a.length + b.length := by
  show (a.cps ++ b.cps).size = a.cps.size + b.cps.size
  rw [Array.size_append]
section
variable {P : Program} {w : World} {K : PySem.W.Frag} {mg : Str → Option Value} {base : Heap} {C fI cc : Addr} {F : NF} {fl : Str} {oc doc pm ctv : Value} {od : Option Addr} {osl : Array (Option Value)} {ar : Arg}
/-- f'.. {fl}' -/
theorem init_f {p0 p1 p2 p3 p4 q1 q2 q3 q4 q5 q6 q7 q8 : Pos} {m : Str} {j : Nat} {pl : Addr → Sem Bool} (T : SupC P K C fI cc F) (lk : K.lookup fI = some ⟨oc, od, .func (F.fd doc pm ctv), osl⟩) (hm : mg "super" = none) (S : NScope ["self", fl, "__class__"] ["self", fl] ["__class__"] F.scope) (no : PySem.W.findIn K (.ref C) fl = some none)
    (hbody : F.body = [.Expr (.Call (.Attribute (.Call (.Name "super" p0) [] [] p1) "__init__" p2) [.JoinedStr [.Constant (.str m) j q1, .FormattedValue (.Name fl q2) (-1) none q3] q4] [] p3) p4, .Assign [.Attribute (.Name "self" q5) fl q6] (.Name fl q7) q8]) (hml : m.length ≤ 1000)
    (hpar : (F.params.posonlyargs ++ F.params.args).head? = some ar) (har : ar.arg = "self") (hks : F.scope.names.lookup ("super" : Str) = some .globalImplicit) (hdb : (fl == ("__debug__" : Str)) = false) (hdc : (fl == ("__classdict__" : Str)) = false)
    (he : ∀ L : Addr, eval (.Call (.Attribute (.Call (.Name "super" p0) [] [] p1) "__init__" p2) [.JoinedStr [.Constant (.str m) j q1, .FormattedValue (.Name fl q2) (-1) none q3] q4] [] p3) (envF F fI L) = (do
      let ov ← attributeBase (.Call (.Name "super" p0) [] [] p1) "__init__" (envF F fI L) (eval (.Call (.Name "super" p0) [] [] p1) (envF F fI L))
      standAt p2.atName
      let (f, first) ← holding [ov] (getMethod ov "__init__" (pl L))
      callWith p3 f first (backTo p3 (starEach [.JoinedStr [.Constant (.str m) j q1, .FormattedValue (.Name fl q2) (-1) none q3] q4] (envF F fI L))) [])) :
    FnOk P w K mg base CX0 1 fI (F.fd doc pm ctv) ["self", fl] (spErr C fl MsgOk) := by
  have vs : F.scope.names.lookup ("self" : Str) = some .local := S.par "self" (List.mem_cons_self ..)
  have vf : F.scope.names.lookup fl = some .local := S.par fl (List.mem_cons_of_mem _ (List.mem_cons_self ..))
  refine sup_ok (k := 0) T lk hm S hbody hpar har hks (fun vs H Q E h => ?_) (fun A outer s H vs Q E hr h => ?_) he (fun L => rfl) (fun L => rfl)
  · obtain ⟨a, y, rfl, _⟩ := h
    rfl
  · obtain ⟨a, y, rfl, ha, ok, k⟩ := h
    refine ⟨a, y, _, _, rfl, ha, pe_joined (.cons pe_str (.cons (pe_fmtN (pe_var (i := 1) rfl (.inl vf) (hd := hdb) (hcd := hdc))) .nil)), pss_one (ps_ost (pe_var (i := 0) rfl (.inl vs)) (pe_var (i := 1) rfl (.inl vf) (hd := hdb) (hcd := hdc)) (by rfl)), ?_⟩
    refine ⟨m, rfl, by rw [app_len, sizeLine_eq]; show 0 + _ ≤ _; omega, y, rfl, ok, fun z hz => ⟨z, rfl, by rw [app_len, app_len, sizeLine_eq]; show 0 + _ + _ ≤ _; omega, rfl, ha, y, rfl, .ref a, rfl, a, C, rfl, T.oex, no, .inl ⟨ha, fun dx n1 n2 => k dx n1 n2⟩⟩⟩
/-- a written text -/
theorem init_c {p0 p1 p2 p3 p4 q1 q5 q6 q7 q8 : Pos} {m : Str} {j : Nat} {pl : Addr → Sem Bool} (T : SupC P K C fI cc F) (lk : K.lookup fI = some ⟨oc, od, .func (F.fd doc pm ctv), osl⟩) (hm : mg "super" = none) (S : NScope ["self", fl, "__class__"] ["self", fl] ["__class__"] F.scope) (no : PySem.W.findIn K (.ref C) fl = some none)
    (hbody : F.body = [.Expr (.Call (.Attribute (.Call (.Name "super" p0) [] [] p1) "__init__" p2) [.Constant (.str m) j q1] [] p3) p4, .Assign [.Attribute (.Name "self" q5) fl q6] (.Name fl q7) q8])
    (hpar : (F.params.posonlyargs ++ F.params.args).head? = some ar) (har : ar.arg = "self") (hks : F.scope.names.lookup ("super" : Str) = some .globalImplicit) (hdb : (fl == ("__debug__" : Str)) = false) (hdc : (fl == ("__classdict__" : Str)) = false)
    (he : ∀ L : Addr, eval (.Call (.Attribute (.Call (.Name "super" p0) [] [] p1) "__init__" p2) [.Constant (.str m) j q1] [] p3) (envF F fI L) = (do
      let ov ← attributeBase (.Call (.Name "super" p0) [] [] p1) "__init__" (envF F fI L) (eval (.Call (.Name "super" p0) [] [] p1) (envF F fI L))
      standAt p2.atName
      let (f, first) ← holding [ov] (getMethod ov "__init__" (pl L))
      callWith p3 f first (backTo p3 (starEach [.Constant (.str m) j q1] (envF F fI L))) [])) :
    FnOk P w K mg base CX0 1 fI (F.fd doc pm ctv) ["self", fl] (spErr C fl fun _ => True) := by
  have vs : F.scope.names.lookup ("self" : Str) = some .local := S.par "self" (List.mem_cons_self ..)
  have vf : F.scope.names.lookup fl = some .local := S.par fl (List.mem_cons_of_mem _ (List.mem_cons_self ..))
  refine sup_ok (k := 0) T lk hm S hbody hpar har hks (fun vs H Q E h => ?_) (fun A outer s H vs Q E hr h => ?_) he (fun L => rfl) (fun L => rfl)
  · obtain ⟨a, y, rfl, _⟩ := h
    rfl
  · obtain ⟨a, y, rfl, ha, ok, k⟩ := h
    refine ⟨a, y, _, _, rfl, ha, pe_str, pss_one (ps_ost (pe_var (i := 0) rfl (.inl vs)) (pe_var (i := 1) rfl (.inl vf) (hd := hdb) (hcd := hdc)) (by rfl)), ?_⟩
    exact ⟨rfl, ha, y, rfl, .ref a, rfl, a, C, rfl, T.oex, no, .inl ⟨ha, fun dx n1 n2 => k dx n1 n2⟩⟩
end
/-! ### the top's facts -/
/-- an __init__: its class, its field, its def -/
structure InD where
  cls : Str
  qual : Str
  fld : Str
  params : Arguments
  body : List Stmt
  scope : Scope
abbrev FnY : Type := Option (Str × Str × Arguments × FuncBody × Scope × Addr × Value × Value × Option Addr × Addr)
def fnY (K : PySem.W.Frag) (x : Str) : FnY := match K.lookup (He.ma K (He.ga K x) "__init__") with
  | some ⟨_, _, .func fd, _⟩ => some (fd.name, fd.qualname, fd.params, fd.body, fd.scope, fd.globals, fd.defaults, fd.kwdefaults, fd.annotations, fd.builtins)
  | _ => none
def InD.val (d : InD) : FnY := some ("__init__", d.qual, d.params, .stmts d.body, d.scope, mainGlobals, .none, .none, none, builtinsNs)
/-- the code object of the program's own text -/
def codeB (P : Program) (K : PySem.W.Frag) (c : Addr) (q : Str) : Bool := PySem.W.codeIn K (.ref c) q && (match K.lookup c with
  | some ⟨_, _, .fields vs, _⟩ => (match (vs[2]? : Option Value) with
    | some (Value.str file _) => (P.main.file : Str) == file
    | _ => false)
  | _ => false)
def codeV (P : Program) (K : PySem.W.Frag) (v : Value) (q : Str) : Bool := match v with
  | .ref c => codeB P K c q
  | _ => false
def cellB (K : PySem.W.Frag) (C c : Addr) : Bool := match K.lookup c with
  | some ⟨_, _, .cell (some (.ref D)), _⟩ => D == C
  | _ => false
def clB (K : PySem.W.Frag) (C : Addr) (l : List (Str × Addr)) : Bool := match l with
  | [(y, c)] => decide (y = "__class__") && cellB K C c
  | _ => false
def fdB (P : Program) (K : PySem.W.Frag) (C fI : Addr) : Bool := match K.lookup fI with
  | some ⟨_, _, .func fd, _⟩ => clB K C fd.closure && codeV P K fd.code fd.qualname
  | _ => false
def supB (P : Program) (K : PySem.W.Frag) (d : InD) : Bool := errB K (He.ga K d.cls) && (fdB P K (He.ga K d.cls) (He.ma K (He.ga K d.cls) "__init__") && (decide (PySem.W.nsIn K cStatics "thirdparty.any" = some none) && (decide (PySem.W.ks_superIn K (He.ga K d.cls) (He.ga K d.cls) "__init__" = some (some (.builtin "ValueError.__init__"))) &&
  (decide (PySem.W.subIn K (.ref (He.ga K d.cls)) (.type "ValueError") = some true) && (decide (PySem.W.mroIn K (He.ga K d.cls) (.ref (He.ga K d.cls)) = some true) && (decide (PySem.W.findIn K (.ref (He.ga K d.cls)) "__init__" = some (some (.ref (He.ma K (He.ga K d.cls) "__init__")))) &&
  (decide (PySem.W.typeIn K (.ref (He.ma K (He.ga K d.cls) "__init__")) = some (.type "function")) && (decide (PySem.W.findIn K (.ref (He.ga K d.cls)) d.fld = some none) && He.eqO (PySem.W.nsIn K mainGlobals d.cls) (some (some (.ref (He.ga K d.cls))))))))))))
theorem cellB_ok {K : PySem.W.Frag} {C c : Addr} (h : cellB K C c = true) : ∃ (cl : Value) (cld : Option Addr) (csl : Array (Option Value)), K.lookup c = some (⟨cl, cld, .cell (some (.ref C)), csl⟩ : Obj) := by
  unfold cellB at h
  split at h
  · rename_i a b D s e
    have : D = C := eq_of_beq h
    subst this
    exact ⟨a, b, s, e⟩
  · cases h
theorem codeB_ok {P : Program} {K : PySem.W.Frag} {c : Addr} {q : Str} (h : codeB P K c q = true) : PySem.W.codeIn K (.ref c) q = true ∧ ∃ (ccl : Value) (cdd : Option Addr) (vs : Array Value) (ccs : Array (Option Value)) (file : Str) (tf : Tok), K.lookup c = some (⟨ccl, cdd, .fields vs, ccs⟩ : Obj) ∧ vs[2]? = some (Value.str file tf) ∧ ((P.main.file : Str) == file) = true := by
  unfold codeB at h
  obtain ⟨h1, h⟩ := Bool.and_eq_true_iff.mp h
  refine ⟨h1, ?_⟩
  split at h
  · rename_i a b vs s e
    split at h
    · rename_i file t e2
      exact ⟨a, b, vs, s, file, t, e, e2, h⟩
    · cases h
  · cases h
/-- what is known of the class behind the top -/
theorem init_at {P : Program} {K : PySem.W.Frag} {d : InD} (e : fnY K d.cls = d.val) (c : supB P K d = true) (top : (P.main.scope.names.lookup ("super" : Str)).isSome = false) :
    ∃ (F : NF) (cc : Addr) (oc doc pm ctv : Value) (od : Option Addr) (osl : Array (Option Value)), F.name = "__init__" ∧ F.qual = d.qual ∧ F.params = d.params ∧ F.body = d.body ∧ F.scope = d.scope ∧ SupC P K (He.ga K d.cls) (He.ma K (He.ga K d.cls) "__init__") cc F ∧ K.lookup (He.ma K (He.ga K d.cls) "__init__") = some ⟨oc, od, .func (F.fd doc pm ctv), osl⟩ := by
  unfold supB at c
  simp only [Bool.and_eq_true, decide_eq_true_eq] at c
  obtain ⟨c1, c2, c3, c4, c5, c6, c7, c8, c9, c10⟩ := c
  have E := errB_ok c1
  unfold fdB at c2
  unfold fnY at e
  cases q : K.lookup (He.ma K (He.ga K d.cls) "__init__") with
  | none =>
    rw [q] at c2
    cases c2
  | some o =>
    obtain ⟨oc, od, dt, osl⟩ := o
    rw [q] at c2 e
    cases dt with
    | func fd =>
      obtain ⟨n1, n2, n3, n4, n5, n6, n7, n8, n9, n10, n11, n12, n13, n14, n15⟩ := fd
      have e2 : (some (n1, n2, n3, n4, n5, n6, n8, n9, n12, n15) : FnY) = some (("__init__" : Str), d.qual, d.params, FuncBody.stmts d.body, d.scope, mainGlobals, Value.none, Value.none, (none : Option Addr), builtinsNs) := e
      simp only [Option.some.injEq, Prod.mk.injEq] at e2
      obtain ⟨h1, h2, h3, h4, h5, h6, h7, h8, h9, h10⟩ := e2
      subst h1 h2 h3 h4 h5 h6 h7 h8 h9 h10
      have c3' : (clB K (He.ga K d.cls) n7 && codeV P K n13 d.qual) = true := c2
      obtain ⟨k1, k2⟩ := Bool.and_eq_true_iff.mp c3'
      unfold clB at k1
      split at k1
      · rename_i y cc
        obtain ⟨k3, k4⟩ := Bool.and_eq_true_iff.mp k1
        have ey : y = "__class__" := of_decide_eq_true k3
        subst ey
        cases n13 with
        | ref cd =>
          obtain ⟨k5, k6⟩ := codeB_ok k2
          exact ⟨⟨"__init__", d.qual, d.params, d.body, d.scope, [("__class__", cc)], cd⟩, cc, oc, n10, n11, n14, od, osl, rfl, rfl, rfl, rfl, rfl, ⟨E.oex, rfl, k5, k6, cellB_ok k4, top, c3, c4, c5, c6⟩, rfl⟩
        | _ => cases k2
      · cases k1
    | _ => cases c2
theorem mkE {P : Program} {K : PySem.W.Frag} {h : Heap} {mg : Str → Option Value} {d : InD} {ok : V → Prop} (X : K.In h) (G : h.Ns mainGlobals mg) (e : fnY K d.cls = d.val) (c : supB P K d = true) (top : (P.main.scope.names.lookup ("super" : Str)).isSome = false)
    (hb : ∀ (F : NF) (doc pm ctv : Value) (us : List Value), F.name = "__init__" → F.qual = d.qual → F.params = d.params → F.body = d.body → F.scope = d.scope → us.length = 2 → bindArgs (F.fd doc pm ctv) ⟨us, []⟩ = pure ((([("self" : Str), d.fld] : List Str)).zip us))
    (hF : ∀ (F : NF) (cc : Addr) (oc doc pm ctv : Value) (od : Option Addr) (osl : Array (Option Value)) (w : World) (base : Heap), F.params = d.params → F.body = d.body → F.scope = d.scope → SupC P K (He.ga K d.cls) (He.ma K (He.ga K d.cls) "__init__") cc F →
      K.lookup (He.ma K (He.ga K d.cls) "__init__") = some ⟨oc, od, .func (F.fd doc pm ctv), osl⟩ → PySem.W.findIn K (.ref (He.ga K d.cls)) d.fld = some none → FnOk P w K mg base CX0 1 (He.ma K (He.ga K d.cls) "__init__") (F.fd doc pm ctv) ["self", d.fld] (spErr (He.ga K d.cls) d.fld ok)) :
    ∃ D : DfE P K mg d.cls d.fld ok, D.C = He.ga K d.cls := by
  obtain ⟨F, cc, oc, doc, pm, ctv, od, osl, f1, f2, f3, f4, f5, S, lk⟩ := init_at e c top
  unfold supB at c
  simp only [Bool.and_eq_true, decide_eq_true_eq] at c
  obtain ⟨c1, c2, c3, c4, c5, c6, c7, c8, c9, c10⟩ := c
  exact ⟨⟨He.ga K d.cls, He.ma K (He.ga K d.cls) "__init__", F.fd doc pm ctv, PySem.W.mg_of X G (He.eqO_ok c10), errB_ok c1, c7, c8, c9, .all fun us hl => hb F doc pm ctv us f1 f2 f3 f4 f5 hl, fun w base => hF F cc oc doc pm ctv od osl w base f3 f4 f5 S lk c9⟩, rfl⟩
/-! ### the Hook -/
def ex0B (K : PySem.W.Frag) (x : Str) : Bool := errB K (He.ga K x) && (PySem.W.excIn K (He.ga K x) He.veBase "ValueError.__new__" && He.eqO (PySem.W.nsIn K mainGlobals x) (some (some (.ref (He.ga K x)))))
/-- isinstance of an instance of x, y: b -/
def kitB (K : PySem.W.Frag) (p : Str × Str × Bool) : Bool := decide (PySem.W.kitOne K (.ref (He.ga K p.1)) (.ref (He.ga K p.2.1)) = some p.2.2)
abbrev AlX : Type := He.AlD × Bool × List FnY
/-- an own class that isinstance, == and != ask -/
structure OwnC (K : PySem.W.Frag) (C : Addr) : Prop where
  ha : PySem.W.findIn K (.ref C) "__class__" = some (some (.builtin "object.__class__"))
  hn : PySem.W.specialIn K (.builtin "object.__class__") "__get__" = some (some (.builtin "getset_descriptor.__get__"))
  ht : PySem.W.takesIn K (.builtin "object.__class__") = some true
  hm : PySem.W.mroIn K C (.type "object") = some true
  me : PySem.W.kitOne K (.ref C) (.ref C) = some true
  ne : PySem.W.findIn K (.ref C) "__ne__" = some (some (.builtin "object.__ne__"))
def ownB (K : PySem.W.Frag) (x : Str) : Bool := decide (PySem.W.findIn K (.ref (He.ga K x)) "__class__" = some (some (.builtin "object.__class__"))) && (decide (PySem.W.specialIn K (.builtin "object.__class__") "__get__" = some (some (.builtin "getset_descriptor.__get__"))) && (decide (PySem.W.takesIn K (.builtin "object.__class__") = some true) &&
  (decide (PySem.W.mroIn K (He.ga K x) (.type "object") = some true) && (decide (PySem.W.kitOne K (.ref (He.ga K x)) (.ref (He.ga K x)) = some true) && decide (PySem.W.findIn K (.ref (He.ga K x)) "__ne__" = some (some (.builtin "object.__ne__")))))))
theorem ownB_ok {K : PySem.W.Frag} {x : Str} (h : ownB K x = true) : OwnC K (He.ga K x) := by
  unfold ownB at h
  simp only [Bool.and_eq_true, decide_eq_true_eq] at h
  obtain ⟨h1, h2, h3, h4, h5, h6⟩ := h
  exact ⟨h1, h2, h3, h4, h5, h6⟩
/-- isinstance of a value of the built-in class T, y: false; y is no such class's own -/
structure KtyF (K : PySem.W.Frag) (T : String) (C : Addr) : Prop where
  no : PySem.W.kitOne K (.type T) (.ref C) = some false
  nf : PySem.W.notFirst K C (.type T) = true
def ktyB (K : PySem.W.Frag) (p : String × Str) : Bool := decide (PySem.W.kitOne K (.type p.1) (.ref (He.ga K p.2)) = some false) && PySem.W.notFirst K (He.ga K p.2) (.type p.1)
theorem ktyB_ok {K : PySem.W.Frag} {p : String × Str} (h : ktyB K p = true) : KtyF K p.1 (He.ga K p.2) := by
  unfold ktyB at h
  simp only [Bool.and_eq_true, decide_eq_true_eq] at h
  exact ⟨h.1, h.2⟩
structure Xs where
  ini : List InD := []
  ex : List Str := []
  kit : List (Str × Str × Bool) := []
  exm : List (Str × Str × Bool) := []
  own : List Str := []
  kty : List (String × Str) := []
def Xs.ok (P : Program) (x : Xs) (K : PySem.W.Frag) : Bool := x.ini.all (supB P K) && (x.ex.all (ex0B K) && (x.kit.all (kitB K) && ((x.exm.all fun p => (He.Fa.exm p.1 p.2.1 p.2.2).ok K) && (x.own.all (ownB K) && x.kty.all (ktyB K)))))
def obsX (P : Program) (fa : List He.Fa) (fn : List He.DefD) (x : Xs) (K : PySem.W.Frag) : AlX := (He.obsD fa fn K, x.ok P K, x.ini.map fun d => fnY K d.cls)
def valX (fn : List He.DefD) (x : Xs) : AlX := (He.valD fn, true, x.ini.map InD.val)
def obsXG (P : Program) (n : Nat) (fa : List He.Fa) (fn : List He.DefD) (x : Xs) (g : Addr → Option Obj) : AlX := obsX P fa fn x (He.frG g (cStatics :: He.asD g n))
def SaysX (P : Program) (fa : List He.Fa) (fn : List He.DefD) (x : Xs) (K : PySem.W.Frag) : Prop := obsX P fa fn x K = valX fn x
def hookX (P : Program) (n : Nat) (fa : List He.Fa) (fn : List He.DefD) (x : Xs) : PySem.W.Hook where
  α := AlX
  obs := fun s => obsXG P n fa fn x s.heap.get?
  val := fun _ => valX fn x
  says := fun _ h => ∃ K : PySem.W.Frag, K.In h ∧ SaysX P fa fn x K
  of := fun _ _ e => ⟨_, He.frG_in, e⟩
  keeps := fun _ _ _ ⟨K, hK, c⟩ k => ⟨K, PySem.W.Frag.In.keeps hK k, c⟩
theorem obsXG_eq {P : Program} {n : Nat} {fa : List He.Fa} {fn : List He.DefD} {x : Xs} {g : Addr → Option Obj} {s : Shared} (h : ∀ a, g a = s.heap.get? a) : obsXG P n fa fn x g = (hookX P n fa fn x).obs s := by
  have e : g = s.heap.get? := funext h
  rw [e] <;> rfl
section
variable {P : Program} {fa : List He.Fa} {fn : List He.DefD} {x : Xs} {K : PySem.W.Frag}
theorem SaysX.d (c : SaysX P fa fn x K) : He.SaysD fa fn K := congrArg (fun z : AlX => z.1) c
theorem SaysX.b (c : SaysX P fa fn x K) : x.ok P K = true := congrArg (fun z : AlX => z.2.1) c
theorem SaysX.ini (c : SaysX P fa fn x K) (i : Nat) {d : InD} (h : x.ini[i]? = some d := by rfl) : supB P K d = true ∧ fnY K d.cls = d.val := by
  obtain ⟨b, _⟩ := Bool.and_eq_true_iff.mp c.b
  refine ⟨List.all_eq_true.mp b d (List.mem_of_getElem? h), ?_⟩
  have e : x.ini.map (fun d => fnY K d.cls) = x.ini.map InD.val := congrArg (fun z : AlX => z.2.2) c
  have e2 : (x.ini.map fun d => fnY K d.cls)[i]? = (x.ini.map InD.val)[i]? := by rw [e]
  rw [List.getElem?_map, List.getElem?_map, h] at e2
  exact Option.some.inj e2
theorem SaysX.ex {h : Heap} {mg : Str → Option Value} (c : SaysX P fa fn x K) (X : K.In h) (G : h.Ns mainGlobals mg) (i : Nat) {y : Str} (hy : x.ex[i]? = some y := by rfl) : ∃ D : DfE0 K mg y, D.C = He.ga K y := by
  obtain ⟨_, b⟩ := Bool.and_eq_true_iff.mp c.b
  obtain ⟨b, _⟩ := Bool.and_eq_true_iff.mp b
  have z := List.all_eq_true.mp b y (List.mem_of_getElem? hy)
  unfold ex0B at z
  simp only [Bool.and_eq_true] at z
  exact ⟨⟨He.ga K y, PySem.W.mg_of X G (He.eqO_ok z.2.2), errB_ok z.1, z.2.1⟩, rfl⟩
theorem SaysX.kit (c : SaysX P fa fn x K) (i : Nat) {p : Str × Str × Bool} (hy : x.kit[i]? = some p := by rfl) : PySem.W.kitOne K (.ref (He.ga K p.1)) (.ref (He.ga K p.2.1)) = some p.2.2 := by
  obtain ⟨_, b⟩ := Bool.and_eq_true_iff.mp c.b
  obtain ⟨_, b⟩ := Bool.and_eq_true_iff.mp b
  obtain ⟨b, _⟩ := Bool.and_eq_true_iff.mp b
  exact of_decide_eq_true (List.all_eq_true.mp b p (List.mem_of_getElem? hy))
theorem SaysX.exm (c : SaysX P fa fn x K) (i : Nat) {p : Str × Str × Bool} (hy : x.exm[i]? = some p := by rfl) : PySem.W.exmOne K (.ref (He.ga K p.1)) (.ref (He.ga K p.2.1)) = some p.2.2 := by
  obtain ⟨_, b⟩ := Bool.and_eq_true_iff.mp c.b
  obtain ⟨_, b⟩ := Bool.and_eq_true_iff.mp b
  obtain ⟨_, b⟩ := Bool.and_eq_true_iff.mp b
  obtain ⟨b, _⟩ := Bool.and_eq_true_iff.mp b
  exact He.exm_ok (List.all_eq_true.mp b p (List.mem_of_getElem? hy))
theorem SaysX.own (c : SaysX P fa fn x K) (i : Nat) {y : Str} (hy : x.own[i]? = some y := by rfl) : OwnC K (He.ga K y) := by
  obtain ⟨_, b⟩ := Bool.and_eq_true_iff.mp c.b
  obtain ⟨_, b⟩ := Bool.and_eq_true_iff.mp b
  obtain ⟨_, b⟩ := Bool.and_eq_true_iff.mp b
  obtain ⟨_, b⟩ := Bool.and_eq_true_iff.mp b
  obtain ⟨b, _⟩ := Bool.and_eq_true_iff.mp b
  exact ownB_ok (List.all_eq_true.mp b y (List.mem_of_getElem? hy))
theorem SaysX.kty (c : SaysX P fa fn x K) (i : Nat) {p : String × Str} (hy : x.kty[i]? = some p := by rfl) : KtyF K p.1 (He.ga K p.2) := by
  obtain ⟨_, b⟩ := Bool.and_eq_true_iff.mp c.b
  obtain ⟨_, b⟩ := Bool.and_eq_true_iff.mp b
  obtain ⟨_, b⟩ := Bool.and_eq_true_iff.mp b
  obtain ⟨_, b⟩ := Bool.and_eq_true_iff.mp b
  obtain ⟨_, b⟩ := Bool.and_eq_true_iff.mp b
  exact ktyB_ok (List.all_eq_true.mp b p (List.mem_of_getElem? hy))
end
end EX
/-! the head's look at the program's top, with the tables of code objects of some defs -/
namespace EX
open PySem PySem.Spec PyProof.Rows L2
/-- x: what EX1 tells; tf: the defs whose lambdas are made; kve: the classes below ValueError -/
structure XT where
  x : Xs
  tf : List He.Defn
  kve : List Str
def XT.okB (t : XT) (K : PySem.W.Frag) : Bool := t.kve.all fun y => decide (PySem.W.kitOne K (.ref (He.ga K y)) (.type "ValueError") = some true)
abbrev AlXT : Type := AlX × Bool
abbrev frXT (n : Nat) (g : Addr → Option Obj) : PySem.W.Frag := He.frT g (cStatics :: He.asD g n)
def obsXT (P : Program) (n : Nat) (fa : List He.Fa) (fn : List He.DefD) (t : XT) (g : Addr → Option Obj) : AlXT := (obsX P fa fn t.x (frXT n g), t.okB (frXT n g) && He.tabsB g t.tf (frXT n g))
structure SaysXT (P : Program) (fa : List He.Fa) (fn : List He.DefD) (t : XT) (h : Heap) (K : PySem.W.Frag) : Prop where
  c : SaysX P fa fn t.x K
  kv : t.okB K = true
  hd : ∀ p ∈ t.tf, PySem.W.codeHdIn K (He.cT K p).1 (He.cT K p).2 = true
  out : ∀ p ∈ t.tf, K.lookup (He.cT K p).2 = none
  empty : ∀ p ∈ t.tf, h.get? (He.cT K p).2 = some { cls := .none, data := .fields #[] }
theorem saysXT_of {P : Program} {n : Nat} {fa : List He.Fa} {fn : List He.DefD} {t : XT} {h : Heap} (e : obsXT P n fa fn t h.get? = (valX fn t.x, true)) : SaysXT P fa fn t h (frXT n h.get?) := by
  obtain ⟨b1, b2⟩ := Bool.and_eq_true_iff.mp (congrArg Prod.snd e)
  have each : ∀ p ∈ t.tf, PySem.W.codeHdIn (frXT n h.get?) (He.cT (frXT n h.get?) p).1 (He.cT (frXT n h.get?) p).2 = true ∧ ∃ o, h.get? (He.cT (frXT n h.get?) p).2 = some o ∧ He.emptyTab o = true := fun p hp => by
    obtain ⟨q1, q2⟩ := Bool.and_eq_true_iff.mp (List.all_eq_true.mp b2 p hp)
    refine ⟨q1, ?_⟩
    cases y : h.get? (He.cT (frXT n h.get?) p).2 with
    | none =>
      rw [y] at q2
      cases q2
    | some o =>
      rw [y] at q2
      exact ⟨o, rfl, q2⟩
  exact ⟨congrArg Prod.fst e, b1, fun p hp => (each p hp).1, fun p hp => by
    obtain ⟨_, o, y, q⟩ := each p hp
    exact He.frT_none y q, fun p hp => by
    obtain ⟨_, o, y, q⟩ := each p hp
    rw [y, He.emptyTab_eq q]⟩
def hookXT (P : Program) (n : Nat) (fa : List He.Fa) (fn : List He.DefD) (t : XT) : PySem.W.Hook where
  α := AlXT
  obs := fun s => obsXT P n fa fn t s.heap.get?
  val := fun _ => (valX fn t.x, true)
  says := fun _ h => ∃ K : PySem.W.Frag, K.In h ∧ SaysXT P fa fn t h K
  of := fun _ _ e => ⟨_, He.frT_in, saysXT_of e⟩
  keeps := fun _ _ _ ⟨K, hK, c⟩ k => ⟨K, PySem.W.Frag.In.keeps hK k, ⟨c.c, c.kv, c.hd, c.out, fun p hp => k _ _ (c.empty p hp)⟩⟩
theorem obsXT_eq {P : Program} {n : Nat} {fa : List He.Fa} {fn : List He.DefD} {t : XT} {g : Addr → Option Obj} {s : Shared} (h : ∀ a, g a = s.heap.get? a) : obsXT P n fa fn t g = (hookXT P n fa fn t).obs s := by
  have e : g = s.heap.get? := funext h
  rw [e] <;> rfl
theorem SaysXT.kve {P : Program} {fa : List He.Fa} {fn : List He.DefD} {t : XT} {h : Heap} {K : PySem.W.Frag} (c : SaysXT P fa fn t h K) (i : Nat) {y : Str} (hy : t.kve[i]? = some y := by rfl) : PySem.W.kitOne K (.ref (He.ga K y)) (.type "ValueError") = some true :=
  of_decide_eq_true (List.all_eq_true.mp c.kv y (List.mem_of_getElem? hy))
/-- the code object of a def of the top -/
theorem code_at {K : PySem.W.Frag} {x qual : Str} {params : Arguments} {body : List Stmt} {scope : Scope} {dvs : List V} {kws : List (Str × V)} {p : Str × Option Str} {fd : FuncData} (F : FunD K x qual params body scope dvs kws (He.fAd K p) fd) :
    ∀ oc od gd osl, K.lookup (He.fAd K p) = some ⟨oc, od, .func gd, osl⟩ → gd.code = .ref (He.codeOf K p) := by
  intro oc od gd osl lk
  obtain ⟨oc1, od1, dV, kV, doc, pm, an, cdv, ct, osl1, rfl, lk1, hcd, _, _⟩ := F.ex
  obtain ⟨c, e⟩ := He.codeIn_ref hcd
  subst e
  have q := lk.symm.trans lk1
  injection q with q
  injection q with _ _ q _
  injection q with q
  subst q
  rw [He.codeOf_eq lk1 rfl] <;> rfl
end EX
/-! an error of the program that is kept behind its handler: except (A, B) as e: x = e -/
namespace EK
open PySem PySem.Spec PyProof.Rows L2
/-- the kept error: its class, its dict -/
def Kep (a : Addr) (cls : Value) (d : Option Addr) : HO := .ext fun h => ∃ (ob : Obj) (fs : Array Value), h.get? a = some ob ∧ Zc cls d ob ∧ ob.data = .fields fs
theorem kep_new {P : Program} {w : World} {H : Hp} {h : Heap} {a : Addr} {cls : Value} {d : Option Addr} {ob : Obj} {fs : Array Value} (e : h.get? a = some ob) (z : Zc cls d ob) (q : ob.data = .fields fs) : ObjOk P w H h a (Kep a cls d) :=
  ⟨⟨ob, fs, e, z, q⟩, ⟨ob, e⟩, fun _ _ ⟨o, v, e1, r⟩ st => ⟨o, v, st o e1, r⟩⟩
section
variable {X : Cx} {pins pins' : List (Addr × Obj)} {σ : L2.St} {H : Hp} {s : Shared}
/-- an object that is new since the entry comes to be tracked -/
theorem track {a : Addr} {cls : Value} {d : Option Addr} {ob : Obj} {fs : Array Value} (I : Inv X pins' σ H s) (ha : s.heap.get? a = some ob) (hz : Zc cls d ob) (hd : ob.data = .fields fs) (na : H a = none) (n0 : X.s_0.heap.get? a = none)
    (sub : ∀ p ∈ X.pn ++ pins, p ∈ X.pn ++ pins' ∧ p.1 ≠ a) (nL : a ≠ X.env.locals) : Inv X pins σ (upd H a (Kep a cls d)) s := by
  have old : ∀ b o, X.s_0.heap.get? b = some o → b ≠ a := fun b o e q => by
    rw [q, n0] at e
    cases e
  refine ⟨I.ok, I.os, I.bare, ⟨I.base.keep, I.base.slot, fun b o e n hx => ?_, I.base.there, fun b xs e => ?_, fun b o u e => ?_, fun b ps e => ?_⟩, I.loc, I.cell, ?_, fun y c e => ?_, fun p hp => ?_, fun b u e => ?_, I.len⟩
  · rw [upd_ne (old b o e)]
    exact I.base.free b o e n hx
  · have q := I.base.tups b xs e
    rw [upd_ne (ne_of_none q na)]
    exact q
  · have q := I.base.frzs b o u e
    rw [upd_ne (ne_of_none q na)]
    exact q
  · obtain ⟨more, q⟩ := I.base.tbls b ps e
    exact ⟨more, by rw [upd_ne (ne_of_none q na)]; exact q⟩
  · rw [upd_ne (Ne.symm nL)]
    exact I.free
  · have ne : c ≠ a := fun q => by
      obtain ⟨v, o, ho, hc⟩ := I.cell y c e
      rw [q, ha] at ho
      cases ho
      rw [hd] at hc
      cases hc
    rw [upd_ne ne]
    exact I.freeC y c e
  · obtain ⟨m, ne⟩ := sub p hp
    obtain ⟨e, n, q⟩ := I.pin p m
    exact ⟨e, by rw [upd_ne ne]; exact n, q⟩
  · by_cases hb : b = a
    · subst hb
      rw [upd_same] at e
      cases e
      exact kep_new ha hz hd
    · rw [upd_ne hb] at e
      refine (I.hok b u e).stay (fun _ _ _ q => q) (fun c q => ?_) fun c xs q => ?_
      · rw [upd_ne (ne_of_none q na)]
        exact q
      · rw [upd_ne (ne_of_none q na)]
        exact q
/-- the air over a heap that has grown -/
theorem fly_grow {B h h' : Heap} {l : List Env} {a : Addr} {Z : Obj → Prop} (gr : ∀ b o, h.get? b = some o → h'.get? b = some o) (x : HandSPX.FlyingZ B l a Z h) : HandSPX.FlyingZ B l a Z h' := by
  obtain ⟨x1, x2, x3, oe, vs, T, oT, ts, y1, y2, y3, y4, y5, y6, y7, y8⟩ := x
  exact ⟨fun b o e => gr b o (x1 b o e), x2, Heap.FunFrames.of_keeps (fun b o e _ => ⟨o, gr b o e, rfl⟩) x3, oe, vs, T, oT, ts, gr _ _ y1, y2, y3, y4, y5, y6, gr _ _ y7, y8⟩
end
/-- what 'except (c1, c2) as n: suite' wishes; slot i is n's -/
def wKeep (K : PySem.W.Frag) (c1 c2 : Value) (i : Nat) (ts : Addr → TS) (D : Ends) : WX := fun cls d σ H =>
  PySem.W.exmAny K cls [c1, c2] = some true ∧ ∀ a, H a = none → ts a { nx := fun σ' H' => D.nx (σ'.set i none) (upd H' a (Kep a cls d)), rt := fun _ _ => False, bk := fun _ _ => False, ct := fun _ _ => False } (σ.set i (some (.ref a))) H
section
variable {X : Cx} {x1 x2 n : Str} {c1 c2 : Value} {i kk : Nat} {body suite : List Stmt} {b₀ : Stmt} {p1 p2 p3 p4 pos : Pos} {tb : WX → TS} {ts : Addr → TS}
theorem ps_try_keep (hex : X.ex = []) (hst : X.stack = X.env :: X.outer) (hfm : X.env.frame = some X.env.locals) (hN : X.N.Nodup) (hi : X.N[i]? = some n) (hln : X.env.kindOf n = some .local) (m1 : Names X x1 c1) (m2 : Names X x2 c2)
    (hbody : ∀ (W : WX) (pn : List (Addr × Obj)) (xe : Value → Shared → Prop), Takes (X.tr pn xe) W → PassesOwn (model X.prog X.w) X.A X.env xe → PSs (X.tr pn xe) body (tb W))
    (hsuite : ∀ (a : Addr) (oe : Obj) (pn : List (Addr × Obj)), PSs (X.suite a ((a, oe) :: pn)) (b₀ :: suite) (ts a)) :
    PS X (.Try body [.ExceptHandler (some (.Tuple [.Name x1 p1, .Name x2 p2] kk p3)) (some n) (b₀ :: suite) p4] [] [] pos) (fun D σ H => tb (wKeep X.K c1 c2 i ts D) D σ H) := by
  refine ⟨fun pins s σ H D I h => ?_⟩
  have okX := I.ok
  have frA : X.A.frames = some (X.env :: X.outer) := by rw [okX.frames, hst]
  refine wpAny_Try_except ?_
  refine wpAny_mono ((hbody (wKeep X.K c1 c2 i ts D) (X.pn ++ pins) (fun e t1 => wpAny (model X.prog X.w) X.A (noteFrame e X.env) (fun _ t2 => wpAny (model X.prog X.w) X.A (setFlight e none) (fun _ t3 =>
    wpAny (model X.prog X.w) X.A (handleBy e X.env [.ExceptHandler (some (.Tuple [.Name x1 p1, .Name x2 p2] kk p3)) (some n) (b₀ :: suite) p4]) (SP X pins D) X.xe t3) X.xe t2) X.xe t1) (fun u s' xx => ?_) PassesOwn.looking).run [] s σ H D (I.toTry _) h) (fun f s1 hsp => ?_) (fun e s1 he => he)
  · obtain ⟨a, B, sI, pinsW, σ1, H1, cls, d, rfl, JW, gnd, up, sky, na, os, ag, wm, wk⟩ := xx
    have J : Inv X pins σ1 H1 sI := JW.ofTry okX
    have skyX : Sky B (X.env :: X.outer) a (Zc cls d) X.env.locals s'.heap := by rw [← hst]; exact sky
    show wpAny (model X.prog X.w) X.A (noteFrame (.ref a) X.env) _ _ _
    refine Sky.land Zc.steady frA hfm skyX fun h3 fl3 up3 => ?_
    have noB : B.get? a = none := fl3.2.1
    have J3 : Inv X pins σ1 H1 { s' with heap := h3 } := J.landed gnd fl3.1 (up.trans up3) os ag
    obtain ⟨ob3, fs3, ea3, za3, da3⟩ := fl3.there
    have nfr : a ∉ frs (X.env :: X.outer) := fun hm => by
      obtain ⟨_, o', e', nf⟩ := fl3.2.2.1.mem hm
      rw [ea3] at e'
      cases e'
      exact nf _ da3
    have nL : a ≠ X.env.locals := fun q => nfr (List.mem_filterMap.mpr ⟨X.env, List.mem_cons_self, by rw [hfm, q]⟩)
    have nF : a ∉ X.fs := fun hm => by
      obtain ⟨e, he, q⟩ := List.mem_filterMap.mp hm
      exact nfr (List.mem_filterMap.mpr ⟨e, List.mem_cons_of_mem _ he, q⟩)
    have nst : a ∉ frs X.stack := by rw [hst]; exact nfr
    have nI : sI.heap.get? a = none := by
      cases q : sI.heap.get? a with
      | none => rfl
      | some o =>
        rw [gnd a o q nst] at noB
        cases noB
    have n0 : a ∉ X.ex → X.s_0.heap.get? a = none := fun hx => by
      cases q : X.s_0.heap.get? a with
      | none => rfl
      | some o =>
        obtain ⟨o', q'⟩ := J.base.there a o q hx
        rw [nI] at q'
        cases q'
    have nx : a ∉ X.ex := fun hx => by
      rw [hex] at hx
      cases hx
    have np : ∀ p ∈ X.pn ++ pins, p.1 ≠ a := fun p hp q => by
      have h1 := (J.pin p hp).1
      rw [q, nI] at h1
      cases h1
    have S3 := J3.suite ea3 da3 na nL nF
    refine wpAny_handleBy_cons (codeAny_handlers_test ?_) (by intro q; cases q)
    have name : ∀ {x : Str} {c : Value} {p : Pos} {Q : Value → Shared → Prop} {E : Value → Shared → Prop}, Names X x c → Q c { s' with heap := h3 } → wpAny (model X.prog X.w) (X.A.mark (some (.ref a))) (eval (.Name x p) X.env) Q E { s' with heap := h3 } := fun {x c p Q E} m q => by
      obtain ⟨hg, hdb, hm | ⟨hm, hv, hn⟩⟩ := m
      · exact ld_glob (X := X.suite a ((a, ob3) :: (X.pn ++ pins))) S3 hg hm q hdb
      · exact ld_blt (X := X.suite a ((a, ob3) :: (X.pn ++ pins))) S3 hg hm hv q hn hdb
    refine wpAny_Tuple ?_
    refine wpAny_items_cons (name m1 ?_)
    refine wpAny_items_cons (name m2 ?_)
    refine wpAny_items_nil ⟨by size_fits, ?_⟩
    generalize eg : (h3.push { cls := .type "tuple", data := .seq [c1, c2].toArray }) = g3
    have gr : ∀ b o, h3.get? b = some o → g3.get? b = some o := fun b o e => by
      rw [← eg]
      exact Heap.get?_push_of_some _ e
    have LT : PySem.W.Looks (model X.prog X.w) g3 (typeOf (.ref a)) cls := fun A Q E t k q => wpAny_typeOf_ref (k _ _ (gr _ _ ea3)) (by rw [za3.1]; exact q)
    have LM := PySem.W.exm_tup2 (M := model X.prog X.w) (J3.kIn.keeps gr) LT (by rw [← eg]; exact Heap.get?_push_size h3 rfl) wm
    refine LM.here ?_
    refine codeAny_handlers_suite_as ?_
    have flg := fly_grow gr fl3
    refine HandSPX.lands_againZ flg fun h4 fl4 up4 => ?_
    have J4 : Inv X pins σ1 H1 { s' with heap := h4 } := J.landed gnd fl4.1 ((up.trans (up3.trans (Heap.UpToSlots.of_keeps gr))).trans up4) os ag
    obtain ⟨ob4, fs4, ea4, za4, da4⟩ := fl4.there
    have S4 := J4.suite ea4 da4 na nL nF
    refine store_ok (X := X.suite a ((a, ob4) :: (X.pn ++ pins))) (v := .ref a) S4 hN hi (.inl hln) rfl (fun s5 S5 => ?_) (.inr hln)
    refine wpAny_mono ((hsuite a ob4 (X.pn ++ pins)).run [] s5 _ H1 _ S5 (wk a na)) (fun f s6 hsp => ?_) (fun _ _ q => False.elim q)
    cases f with
    | next =>
      obtain ⟨σ6, H6, S6, q6⟩ := hsp
      have mem6 : ∀ p ∈ X.pn ++ (a, ob4) :: pins, p ∈ (X.suite a ((a, ob4) :: (X.pn ++ pins))).pn ++ [] := fun p hp => by
        show p ∈ ((a, ob4) :: (X.pn ++ pins)) ++ []
        simp only [List.mem_append, List.mem_cons, List.append_nil] at hp ⊢
        rcases hp with h | h | h
        · exact .inr (.inl h)
        · exact .inl h
        · exact .inr (.inr h)
      have T6 : Inv X ((a, ob4) :: pins) σ6 H6 s6 := ⟨okX, S6.os, S6.bare, S6.base, S6.loc, S6.cell, S6.free, S6.freeC, fun p hp => S6.pin p (mem6 p hp), S6.hok, S6.len⟩
      refine gone_ok T6 hN hi hln fun s7 J7 => ?_
      obtain ⟨e7, n7, _⟩ := J7.pin (a, ob4) (List.mem_append_right _ List.mem_cons_self)
      exact ⟨_, _, track J7 e7 za4 da4 n7 (n0 nx) (fun p hp => ⟨by rcases List.mem_append.mp hp with h | h; exact List.mem_append_left _ h; exact List.mem_append_right _ (List.mem_cons_of_mem _ h), np p hp⟩) nL, q6⟩
    | brk =>
      obtain ⟨_, _, _, q6⟩ := hsp
      exact False.elim q6
    | cont =>
      obtain ⟨_, _, _, q6⟩ := hsp
      exact False.elim q6
    | ret u =>
      obtain ⟨_, _, _, _, _, q6⟩ := hsp
      exact False.elim q6
  · cases f with
    | next =>
      obtain ⟨σ', H', JW, q⟩ := hsp
      exact wpAny_execs_nil ⟨σ', H', JW.ofTry okX, q⟩
    | brk =>
      obtain ⟨σ', H', JW, q⟩ := hsp
      exact ⟨σ', H', JW.ofTry okX, q⟩
    | cont =>
      obtain ⟨σ', H', JW, q⟩ := hsp
      exact ⟨σ', H', JW.ofTry okX, q⟩
    | ret u =>
      obtain ⟨v, σ', H', JW, r, q⟩ := hsp
      exact ⟨v, σ', H', JW.ofTry okX, r, q⟩
end
end EK
namespace EK
open PySem PySem.Spec PyProof.Rows L2
/-! ### what is asked of a kept error -/
/-- isinstance(x, c), x a kept error -/
def rIsK (K : PySem.W.Frag) : List V → Hp → VK → Prop := fun xs H Q => ∃ (a C : Addr) (d : Option Addr) (c : V) (cv : Value) (b : Bool), xs = [.ref a, c] ∧ H a = some (Kep a (.ref C) d) ∧ EX.ErrC K C ∧ (∀ dd, d = some dd → ∃ fs, H dd = some (.xd fs)) ∧ (∀ u, RelV c u → u = cv) ∧ PySem.W.kitOne K (.ref C) cv = some b ∧ Q (.bl b) H
theorem kep_inst {X : Cx} {pins : List (Addr × Obj)} {σ : L2.St} {H : Hp} {s : Shared} {a C : Addr} {d : Option Addr} (I : L2.Inv X pins σ H s) (ha : H a = some (Kep a (.ref C) d)) (hd : ∀ dd, d = some dd → ∃ fs, H dd = some (.xd fs)) : ∃ ob od, PySem.W.InstAt s.heap a ob C od := by
  obtain ⟨⟨ob, fs, e, z, q⟩, _, _⟩ := I.hok a _ ha
  cases d with
  | none => exact ⟨ob, none, e, z.1, by unfold PySem.W.notCls; rw [q] <;> rfl, by rw [z.2]; trivial⟩
  | some dd =>
    obtain ⟨gs, ed⟩ := hd dd rfl
    have hx : ObjOk X.prog X.w H s.heap dd (.xd gs) := I.hok dd _ ed
    obtain ⟨mA, hns, _⟩ := hx
    obtain ⟨od, ho, _⟩ := lookIn_ns hns
    exact ⟨ob, some od, e, z.1, by unfold PySem.W.notCls; rw [q] <;> rfl, by rw [z.2]; exact ho⟩
theorem call_isK {X : Cx} : CallR X (.builtin "isinstance") (rIsK X.K) := by
  intro pins s σ H xs us Q I r h
  obtain ⟨a, C, d, c, cv, b, rfl, ha, T, hd, hcv, e, q⟩ := h
  obtain ⟨ob, od, J⟩ := kep_inst I ha hd
  cases r with
  | cons rx rr =>
    cases rr with
    | cons rt rr =>
      cases rr
      cases rx
      cases hcv _ rt
      exact PySem.W.kia_one (EX.kit_err T) I.kIn J e (fun z => nomatch z) fun tk => ⟨.bl b, H, I.kept (t' := tk) fun _ _ z => z, rfl, q⟩
/-- x.f, x a kept error -/
def tXfK (K : PySem.W.Frag) (f : Str) (te : TE) : TE := fun σ H Q => te σ H fun x H1 => ∃ (a C dd : Addr) (fs : List (Str × V)) (v : V), x = .ref a ∧ H1 a = some (Kep a (.ref C) (some dd)) ∧ EX.ErrC K C ∧ PySem.W.findIn K (.ref C) f = some none ∧ H1 dd = some (.xd fs) ∧ fs.lookup f = some v ∧ Q v H1
theorem pe_xfK {X : Cx} {e : Expr} {te : TE} {pos : Pos} {n : Str} (he : PE X e te) (hb : attributeBase e n X.env (eval e X.env) = eval e X.env := by rfl) : PE X (.Attribute e n pos) (tXfK X.K n te) := by
  refine ⟨fun pins s σ H Q I h => ?_⟩
  refine attr_of hb (thn (he.run pins s σ H _ I h) fun u s1 hh => ?_)
  obtain ⟨x, H1, I1, rx, a, C, dd, fs, v, ex, ha, T, hno, ea, l, q⟩ := hh
  subst ex
  obtain rfl : u = Value.ref a := rx
  obtain ⟨⟨ob, gs, e1, z, dq⟩, _, _⟩ := I1.hok a _ ha
  have hx : ObjOk X.prog X.w H1 s1.heap dd (.xd fs) := I1.hok dd _ ea
  obtain ⟨mA, hns, hr⟩ := hx
  obtain ⟨od, ho, hl⟩ := lookIn_ns hns
  obtain ⟨u, hu, ru⟩ := RelO.some_of (v := v) (o := mA n) (by rw [← l]; exact hr n)
  have J : PySem.W.InstAt s1.heap a ob C (some od) := ⟨e1, z.1, by unfold PySem.W.notCls; rw [dq] <;> rfl, by rw [z.2]; exact ho⟩
  exact HandSPX.exc_get I1.kIn J T.xf.ga T.xf.gg T.xf.exC (PySem.W.findObj_own T.xf.hdC hno rfl (by rw [hl, hu])) (handed_of ru) ⟨v, H1, I1.tok _, ru, q⟩
/-! ### the wish behind a state of known length -/
theorem takes_len {X : Cx} {W : WX} (t : Takes X W) : Takes X (fun c d σ H => σ.length = X.N.length → W c d σ H) := fun u s' ⟨a, B, sI, pins, σ, H, cls, d, e, I, gnd, up, sky, na, os, ag, w⟩ =>
  t u s' ⟨a, B, sI, pins, σ, H, cls, d, e, I, gnd, up, sky, na, os, ag, w I.len⟩
/-- a reading from a stronger one -/
theorem pe_more {X : Cx} {e : Expr} {te : TE} (he : PE X e te) : PE X e (fun σ H Q => ∃ Q' : VK, te σ H Q' ∧ ∀ v H', Q' v H' → Q v H') :=
  ⟨fun pins s σ H Q I ⟨Q', h, m⟩ => wpAny_mono (he.run pins s σ H Q' I h) (fun u s1 ⟨v, H1, I1, r, q⟩ => ⟨v, H1, I1, r, m _ _ q⟩) (fun _ _ x => x)⟩
/-- a def whose code object is known -/
theorem funD_okC {P : Program} {w : World} {K : PySem.W.Frag} {mg : Str → Option Value} {base : Heap} {x qual : Str} {params : Arguments} {body : List Stmt} {scope : Scope} {dvs : List V} {kws : List (Str × V)} {f c : Addr} {fd : FuncData} {CX : CXT} {N ps : List Str} {k : Nat} {sp : Sp}
    (F : FunD K x qual params body scope dvs kws f fd) (hc : ∀ oc od gd osl, K.lookup f = some ⟨oc, od, .func gd, osl⟩ → gd.code = .ref c) (S : FnScope N ps scope) (len : ∀ vs H Q E, sp vs H Q E → vs.length = ps.length)
    (bd : ∀ (A : Around) (outer : List Env) (s : Shared) (H : Hp) (vs : List V) (Q : VK) (E : XK), Room k (A.deeper (envOfC qual scope s.heap.objs.size f (.ref c))) → sp vs H Q E →
      ∃ t, PSs (cxOf CX P w K mg base N qual scope f (.ref c) A outer s H E) body t ∧ t { nx := fun _ H' => Q .non H', rt := Q } (start N vs) H) : FnOk P w K mg base CX (k + 1) f fd ps sp := by
  obtain ⟨oc, od, dV, kV, doc, pm, an, cdv, ct, osl, rfl, lk, hcd, _, _⟩ := F.ex
  have e : cdv = .ref c := hc _ _ _ _ lk
  subst e
  exact fn_of lk hcd S len fun A outer s H vs Q E hr hsp => bd A outer s H vs Q E hr hsp
end EK
/-! an error made and held as a value: x = C(e) -/
namespace EK
open PySem PySem.Spec PyProof.Rows L2
def tMade (t : L2.St → Hp → XK → Prop) : TE := fun σ H Q => t σ H fun cls d H1 => ∀ a, H1 a = none → Q (.ref a) (upd H1 a (Kep a cls d))
theorem pe_made {X : Cx} {e : Expr} {t : L2.St → Hp → XK → Prop} (h : PMk X e t) : PE X e (tMade t) := by
  refine ⟨fun pins s σ H Q I q => ?_⟩
  refine wpAny_mono (h pins s σ H _ I q) (fun u s1 hu => ?_) fun _ _ x => x
  obtain ⟨a, oe, vs, sG, H1, cls, d, rfl, J, kG, ge, hoe, hz, hd, h1, na, os, hb, hr, k⟩ := hu
  have L := J.laidN (h' := s1.heap) (t' := sG.toks) kG ge na (kep_new (P := X.prog) (w := X.w) (H := upd H1 a (Kep a cls d)) hoe hz hd)
  exact ⟨.ref a, upd H1 a (Kep a cls d), ⟨L.ok, os.trans J.os, hb, L.base, L.loc, L.cell, L.free, L.freeC, L.pin, L.hok, L.len⟩, rfl, k a na⟩
end EK
namespace DW
open PySem PySem.Spec PyProof.Rows L2 TL
def clsBody (s : Stmt) : List Stmt := match s with
  | .ClassDef _ _ _ b _ _ _ _ _ _ _ => b
  | _ => []
def clsS (i j : Nat) : Stmt := (clsBody (topS i)).getD j (.Pass ⟨0, 0, 0, 0⟩)
end DW
set_option maxHeartbeats 0
namespace DW
open PySem PySem.Spec PyProof.Rows L2
def mkD (x : Str) (st : Stmt) : He.DefD := ⟨(x, none), x, x, defArgs st, defBody st, defScope st, [], []⟩
def fn : List He.DefD := [mkD "law" sLaw, mkD "_law_begin" sBegin, mkD "_law_draw" sDraw, mkD "_law_pick" sPick, mkD "_law_kinds" sLKinds]
def fa : List He.Fa := [.glo "law", .glo "_law_begin", .glo "_law_draw", .glo "_law_pick", .glo "_law_kinds", .free "len", .free "isinstance", .free "range", .free "ValueError", .free "sorted", .free "set", .free "super"]
abbrev R : PySem.W.OpenRow := PySem.W.OpenLaw.row PySem.Challenge.rw_downwords_k22_error_fields
def xs : EX.Xs := { ini := [⟨"InvalidProduct", "InvalidProduct.__init__", "index", defArgs (clsS 3 0), defBody (clsS 3 0), defScope (clsS 3 0)⟩, ⟨"InvalidExpression", "InvalidExpression.__init__", "index", defArgs (clsS 8 0), defBody (clsS 8 0), defScope (clsS 8 0)⟩, ⟨"InvalidProduction", "InvalidProduction.__init__", "index", defArgs (clsS 9 0), defBody (clsS 9 0), defScope (clsS 9 0)⟩, ⟨"TooLarge", "TooLarge.__init__", "limit", defArgs (clsS 5 0), defBody (clsS 5 0), defScope (clsS 5 0)⟩, ⟨"TooMany", "TooMany.__init__", "limit", defArgs (clsS 6 0), defBody (clsS 6 0), defScope (clsS 6 0)⟩, ⟨"NoSuchWord", "NoSuchWord.__init__", "number", defArgs (clsS 7 0), defBody (clsS 7 0), defScope (clsS 7 0)⟩, ⟨"UnknownSymbol", "UnknownSymbol.__init__", "symbol", defArgs (clsS 10 0), defBody (clsS 10 0), defScope (clsS 10 0)⟩, ⟨"InvalidText", "InvalidText.__init__", "line", defArgs (clsS 11 0), defBody (clsS 11 0), defScope (clsS 11 0)⟩, ⟨"UndefinedName", "UndefinedName.__init__", "name", defArgs (clsS 13 0), defBody (clsS 13 0), defScope (clsS 13 0)⟩, ⟨"CyclicDefinition", "CyclicDefinition.__init__", "name", defArgs (clsS 14 0), defBody (clsS 14 0), defScope (clsS 14 0)⟩], ex := ["InvalidAlphabet", "AlphabetMismatch", "InvalidDefinition", "NothingToUndo", "NothingToRedo", "DownwordsError"], kit := (("InvalidAlphabet", "InvalidAlphabet", true) :: ("InvalidAlphabet", "AlphabetMismatch", false) :: ("InvalidAlphabet", "InvalidDefinition", false) :: ("InvalidAlphabet", "NothingToUndo", false) :: ("InvalidAlphabet", "NothingToRedo", false) :: ("InvalidAlphabet", "InvalidProduct", false) :: ("InvalidAlphabet", "InvalidExpression", false) :: ("InvalidAlphabet", "InvalidProduction", false) :: ("InvalidAlphabet", "TooLarge", false) :: ("InvalidAlphabet", "TooMany", false) :: ("InvalidAlphabet", "NoSuchWord", false) :: ("InvalidAlphabet", "UnknownSymbol", false) :: ("InvalidAlphabet", "InvalidText", false) :: ("InvalidAlphabet", "UndefinedName", false) :: ("InvalidAlphabet", "CyclicDefinition", false) :: ("AlphabetMismatch", "InvalidAlphabet", false) :: ("AlphabetMismatch", "AlphabetMismatch", true) :: ("AlphabetMismatch", "InvalidDefinition", false) :: ("AlphabetMismatch", "NothingToUndo", false) :: ("AlphabetMismatch", "NothingToRedo", false) :: ("AlphabetMismatch", "InvalidProduct", false) :: ("AlphabetMismatch", "InvalidExpression", false) :: ("AlphabetMismatch", "InvalidProduction", false) :: ("AlphabetMismatch", "TooLarge", false) :: ("AlphabetMismatch", "TooMany", false) :: ("AlphabetMismatch", "NoSuchWord", false) :: ("AlphabetMismatch", "UnknownSymbol", false) :: ("AlphabetMismatch", "InvalidText", false) :: ("AlphabetMismatch", "UndefinedName", false) :: ("AlphabetMismatch", "CyclicDefinition", false) :: ("InvalidDefinition", "InvalidAlphabet", false) :: ("InvalidDefinition", "AlphabetMismatch", false) :: ("InvalidDefinition", "InvalidDefinition", true) :: ("InvalidDefinition", "NothingToUndo", false) :: ("InvalidDefinition", "NothingToRedo", false) :: ("InvalidDefinition", "InvalidProduct", false) :: ("InvalidDefinition", "InvalidExpression", false) :: ("InvalidDefinition", "InvalidProduction", false) :: ("InvalidDefinition", "TooLarge", false) :: ("InvalidDefinition", "TooMany", false) :: ("InvalidDefinition", "NoSuchWord", false) :: ("InvalidDefinition", "UnknownSymbol", false) :: ("InvalidDefinition", "InvalidText", false) :: ("InvalidDefinition", "UndefinedName", false) :: ("InvalidDefinition", "CyclicDefinition", false) :: ("NothingToUndo", "InvalidAlphabet", false) :: ("NothingToUndo", "AlphabetMismatch", false) :: ("NothingToUndo", "InvalidDefinition", false) :: ("NothingToUndo", "NothingToUndo", true) :: ("NothingToUndo", "NothingToRedo", false) :: ("NothingToUndo", "InvalidProduct", false) :: ("NothingToUndo", "InvalidExpression", false) :: ("NothingToUndo", "InvalidProduction", false) :: ("NothingToUndo", "TooLarge", false) :: ("NothingToUndo", "TooMany", false) :: ("NothingToUndo", "NoSuchWord", false) :: ("NothingToUndo", "UnknownSymbol", false) :: ("NothingToUndo", "InvalidText", false) :: ("NothingToUndo", "UndefinedName", false) :: ("NothingToUndo", "CyclicDefinition", false) :: ("NothingToRedo", "InvalidAlphabet", false) :: ("NothingToRedo", "AlphabetMismatch", false) :: ("NothingToRedo", "InvalidDefinition", false) :: ("NothingToRedo", "NothingToUndo", false) :: ("NothingToRedo", "NothingToRedo", true) :: ("NothingToRedo", "InvalidProduct", false) :: ("NothingToRedo", "InvalidExpression", false) :: ("NothingToRedo", "InvalidProduction", false) :: ("NothingToRedo", "TooLarge", false) :: ("NothingToRedo", "TooMany", false) :: ("NothingToRedo", "NoSuchWord", false) :: ("NothingToRedo", "UnknownSymbol", false) :: ("NothingToRedo", "InvalidText", false) :: ("NothingToRedo", "UndefinedName", false) :: ("NothingToRedo", "CyclicDefinition", false) :: ("InvalidProduct", "InvalidAlphabet", false) :: ("InvalidProduct", "AlphabetMismatch", false) :: ("InvalidProduct", "InvalidDefinition", false) :: ("InvalidProduct", "NothingToUndo", false) :: ("InvalidProduct", "NothingToRedo", false) :: ("InvalidProduct", "InvalidProduct", true) :: ("InvalidProduct", "InvalidExpression", false) :: ("InvalidProduct", "InvalidProduction", false) :: ("InvalidProduct", "TooLarge", false) :: ("InvalidProduct", "TooMany", false) :: ("InvalidProduct", "NoSuchWord", false) :: ("InvalidProduct", "UnknownSymbol", false) :: ("InvalidProduct", "InvalidText", false) :: ("InvalidProduct", "UndefinedName", false) :: ("InvalidProduct", "CyclicDefinition", false) :: ("InvalidExpression", "InvalidAlphabet", false) :: ("InvalidExpression", "AlphabetMismatch", false) :: ("InvalidExpression", "InvalidDefinition", false) :: ("InvalidExpression", "NothingToUndo", false) :: ("InvalidExpression", "NothingToRedo", false) :: ("InvalidExpression", "InvalidProduct", false) :: ("InvalidExpression", "InvalidExpression", true) :: ("InvalidExpression", "InvalidProduction", false) :: ("InvalidExpression", "TooLarge", false) :: ("InvalidExpression", "TooMany", false) :: ("InvalidExpression", "NoSuchWord", false) :: ("InvalidExpression", "UnknownSymbol", false) :: ("InvalidExpression", "InvalidText", false) :: ("InvalidExpression", "UndefinedName", false) :: ("InvalidExpression", "CyclicDefinition", false) :: ("InvalidProduction", "InvalidAlphabet", false) :: ("InvalidProduction", "AlphabetMismatch", false) :: ("InvalidProduction", "InvalidDefinition", false) :: ("InvalidProduction", "NothingToUndo", false) :: ("InvalidProduction", "NothingToRedo", false) :: ("InvalidProduction", "InvalidProduct", false) :: ("InvalidProduction", "InvalidExpression", false) :: ("InvalidProduction", "InvalidProduction", true) :: ("InvalidProduction", "TooLarge", false) :: ("InvalidProduction", "TooMany", false) :: ("InvalidProduction", "NoSuchWord", false) :: ("InvalidProduction", "UnknownSymbol", false) :: ("InvalidProduction", "InvalidText", false) :: ("InvalidProduction", "UndefinedName", false) :: ("InvalidProduction", "CyclicDefinition", false) :: ("TooLarge", "InvalidAlphabet", false) :: ("TooLarge", "AlphabetMismatch", false) :: ("TooLarge", "InvalidDefinition", false) :: ("TooLarge", "NothingToUndo", false) :: ("TooLarge", "NothingToRedo", false) :: ("TooLarge", "InvalidProduct", false) :: ("TooLarge", "InvalidExpression", false) :: ("TooLarge", "InvalidProduction", false) :: ("TooLarge", "TooLarge", true) :: ("TooLarge", "TooMany", false) :: ("TooLarge", "NoSuchWord", false) :: ("TooLarge", "UnknownSymbol", false) :: ("TooLarge", "InvalidText", false) :: ("TooLarge", "UndefinedName", false) :: ("TooLarge", "CyclicDefinition", false) :: ("TooMany", "InvalidAlphabet", false) :: ("TooMany", "AlphabetMismatch", false) :: ("TooMany", "InvalidDefinition", false) :: ("TooMany", "NothingToUndo", false) :: ("TooMany", "NothingToRedo", false) :: ("TooMany", "InvalidProduct", false) :: ("TooMany", "InvalidExpression", false) :: ("TooMany", "InvalidProduction", false) :: ("TooMany", "TooLarge", false) :: ("TooMany", "TooMany", true) :: ("TooMany", "NoSuchWord", false) :: ("TooMany", "UnknownSymbol", false) :: ("TooMany", "InvalidText", false) :: ("TooMany", "UndefinedName", false) :: ("TooMany", "CyclicDefinition", false) :: ("NoSuchWord", "InvalidAlphabet", false) :: ("NoSuchWord", "AlphabetMismatch", false) :: ("NoSuchWord", "InvalidDefinition", false) :: ("NoSuchWord", "NothingToUndo", false) :: ("NoSuchWord", "NothingToRedo", false) :: ("NoSuchWord", "InvalidProduct", false) :: ("NoSuchWord", "InvalidExpression", false) :: ("NoSuchWord", "InvalidProduction", false) :: ("NoSuchWord", "TooLarge", false) :: ("NoSuchWord", "TooMany", false) :: ("NoSuchWord", "NoSuchWord", true) :: ("NoSuchWord", "UnknownSymbol", false) :: ("NoSuchWord", "InvalidText", false) :: ("NoSuchWord", "UndefinedName", false) :: ("NoSuchWord", "CyclicDefinition", false) :: ("UnknownSymbol", "InvalidAlphabet", false) :: ("UnknownSymbol", "AlphabetMismatch", false) :: ("UnknownSymbol", "InvalidDefinition", false) :: ("UnknownSymbol", "NothingToUndo", false) :: ("UnknownSymbol", "NothingToRedo", false) :: ("UnknownSymbol", "InvalidProduct", false) :: ("UnknownSymbol", "InvalidExpression", false) :: ("UnknownSymbol", "InvalidProduction", false) :: ("UnknownSymbol", "TooLarge", false) :: ("UnknownSymbol", "TooMany", false) :: ("UnknownSymbol", "NoSuchWord", false) :: ("UnknownSymbol", "UnknownSymbol", true) :: ("UnknownSymbol", "InvalidText", false) :: ("UnknownSymbol", "UndefinedName", false) :: ("UnknownSymbol", "CyclicDefinition", false) :: ("InvalidText", "InvalidAlphabet", false) :: ("InvalidText", "AlphabetMismatch", false) :: ("InvalidText", "InvalidDefinition", false) :: ("InvalidText", "NothingToUndo", false) :: ("InvalidText", "NothingToRedo", false) :: ("InvalidText", "InvalidProduct", false) :: ("InvalidText", "InvalidExpression", false) :: ("InvalidText", "InvalidProduction", false) :: ("InvalidText", "TooLarge", false) :: ("InvalidText", "TooMany", false) :: ("InvalidText", "NoSuchWord", false) :: ("InvalidText", "UnknownSymbol", false) :: ("InvalidText", "InvalidText", true) :: ("InvalidText", "UndefinedName", false) :: ("InvalidText", "CyclicDefinition", false) :: ("UndefinedName", "InvalidAlphabet", false) :: ("UndefinedName", "AlphabetMismatch", false) :: ("UndefinedName", "InvalidDefinition", false) :: ("UndefinedName", "NothingToUndo", false) :: ("UndefinedName", "NothingToRedo", false) :: ("UndefinedName", "InvalidProduct", false) :: ("UndefinedName", "InvalidExpression", false) :: ("UndefinedName", "InvalidProduction", false) :: ("UndefinedName", "TooLarge", false) :: ("UndefinedName", "TooMany", false) :: ("UndefinedName", "NoSuchWord", false) :: ("UndefinedName", "UnknownSymbol", false) :: ("UndefinedName", "InvalidText", false) :: ("UndefinedName", "UndefinedName", true) :: ("UndefinedName", "CyclicDefinition", false) :: ("CyclicDefinition", "InvalidAlphabet", false) :: ("CyclicDefinition", "AlphabetMismatch", false) :: ("CyclicDefinition", "InvalidDefinition", false) :: ("CyclicDefinition", "NothingToUndo", false) :: ("CyclicDefinition", "NothingToRedo", false) :: ("CyclicDefinition", "InvalidProduct", false) :: ("CyclicDefinition", "InvalidExpression", false) :: ("CyclicDefinition", "InvalidProduction", false) :: ("CyclicDefinition", "TooLarge", false) :: ("CyclicDefinition", "TooMany", false) :: ("CyclicDefinition", "NoSuchWord", false) :: ("CyclicDefinition", "UnknownSymbol", false) :: ("CyclicDefinition", "InvalidText", false) :: ("CyclicDefinition", "UndefinedName", false) :: ("CyclicDefinition", "CyclicDefinition", true) :: ("InvalidAlphabet", "DownwordsError", true) :: ("AlphabetMismatch", "DownwordsError", true) :: ("InvalidDefinition", "DownwordsError", true) :: ("NothingToUndo", "DownwordsError", true) :: ("NothingToRedo", "DownwordsError", true) :: ("InvalidProduct", "DownwordsError", true) :: ("InvalidExpression", "DownwordsError", true) :: ("InvalidProduction", "DownwordsError", true) :: ("TooLarge", "DownwordsError", true) :: ("TooMany", "DownwordsError", true) :: ("NoSuchWord", "DownwordsError", true) :: ("UnknownSymbol", "DownwordsError", true) :: ("InvalidText", "DownwordsError", true) :: ("UndefinedName", "DownwordsError", true) :: ("CyclicDefinition", "DownwordsError", true) :: []), exm := [], own := [], kty := [] }
def xt : EX.XT := { x := xs, tf := [], kve := ["InvalidAlphabet", "AlphabetMismatch", "InvalidDefinition", "NothingToUndo", "NothingToRedo", "InvalidProduct", "InvalidExpression", "InvalidProduction", "TooLarge", "TooMany", "NoSuchWord", "UnknownSymbol", "InvalidText", "UndefinedName", "CyclicDefinition"] }
abbrev hk : PySem.W.Hook := EX.hookXT R.prog 4 fa fn xt
def ob (s : PySem.W.SharedT) : EX.AlXT := EX.obsXT R.prog 4 fa fn xt (HandSHeadRun.getT s)
theorem ob_eq (s : PySem.W.SharedT) : ob s = hk.obs s.abs := EX.obsXT_eq (HandSHeadRun.getT_eq s)
abbrev names : List Str := ["__name__", "DownwordsError", "InvalidAlphabet", "InvalidProduct", "AlphabetMismatch", "TooLarge", "TooMany", "NoSuchWord", "InvalidExpression", "InvalidProduction", "UnknownSymbol", "InvalidText", "InvalidDefinition", "UndefinedName", "CyclicDefinition", "NothingToUndo", "NothingToRedo", "_law_begin", "_law_draw", "_law_pick", "_law_kinds"]
theorem run (w : World) : HandSHeadRun.RunEq R (PySem.W.view R.prog [22]) hk ob 12000 names w := by
  intro os
  kernel_rfl
end DW
set_option maxHeartbeats 4000000
namespace DW
open PySem PySem.Spec PyProof.Rows L2
/-! ### a def that stands in the module -/
structure Df (K : PySem.W.Frag) (mg : Str → Option Value) (x : Str) (st : Stmt) (ps : List Str) where
  f : Addr
  fd : FuncData
  F : FunD K x x (defArgs st) (defBody st) (defScope st) [] [] f fd
  g : mg x = some (.ref f)
  b : Binds K fd ps []
/-! ### heaps: all but the tape stays -/
structure Kp (t : Addr) (H H' : Hp) : Prop where
  old : ∃ kvs, H t = some (.dK kvs)
  new : ∃ kvs, H' t = some (.dK kvs)
  oth : ∀ b o, b ≠ t → H b = some o → H' b = some o
theorem Kp.trans {t : Addr} {H H1 H2 : Hp} (a : Kp t H H1) (b : Kp t H1 H2) : Kp t H H2 := ⟨a.old, b.new, fun c o n e => b.oth c o n (a.oth c o n e)⟩
theorem Kp.of {t : Addr} {H H' : Hp} {kvs : List (Key × V)} (e : H t = some (.dK kvs)) (s : Same H H') : Kp t H H' := ⟨⟨_, e⟩, ⟨_, s _ _ e⟩, fun b o _ h => s b o h⟩
theorem Kp.at {t b : Addr} {H H' : Hp} {o : HO} (k : Kp t H H') (h : H b = some o) (n : ∀ kvs, o ≠ .dK kvs) : H' b = some o := by
  obtain ⟨kvs, e⟩ := k.old
  exact k.oth b o (fun z => by
    subst z
    rw [e] at h
    exact n kvs (Option.some.inj h).symm) h
theorem Kp.lst {t b : Addr} {H H' : Hp} {xs : List V} {K : PySem.W.Frag} (k : Kp t H H') (h : SqL K H b xs) : SqL K H' b xs := by
  rcases h with (h | ⟨o, h⟩) | h
  · exact .inl (.inl (k.at h fun _ z => by cases z))
  · exact .inl (.inr ⟨o, k.at h fun _ z => by cases z⟩)
  · exact .inr h
theorem Kp.tup {t b : Addr} {H H' : Hp} {xs : List V} {K : PySem.W.Frag} (k : Kp t H H') (h : SqT K H b xs) : SqT K H' b xs := by
  rcases h with (h | ⟨o, h⟩) | h
  · exact .inl (.inl (k.at h fun _ z => by cases z))
  · exact .inl (.inr ⟨o, k.at h fun _ z => by cases z⟩)
  · exact .inr h
theorem same_upd {H : Hp} {p : Addr} {o : HO} (h : H p = none) : Same H (upd H p o) := fun b x e => by
  rw [upd_ne (ne_of_none e h)]
  exact e
theorem Kp.gone {t b : Addr} {H H' : Hp} (k : Kp t H H') (h : H' b = none) : H b = none := by
  cases q : H b with
  | none => rfl
  | some o =>
    by_cases e : b = t
    · obtain ⟨kvs, z⟩ := k.new
      rw [e, z] at h
      cases h
    · rw [k.oth b o e q] at h
      cases h
/-! ### the tape -/
def tpd (c : Addr) (p l : Int) : List (Key × V) := [(.inr "cells", .ref c), (.inr "place", .int p), (.inr "left", .int l)]
structure Tape (H : Hp) (t c : Addr) (n : Nat) : Prop where
  ex : ∃ (cells : List Int) (p : Nat) (l : Int), H t = some (.dK (tpd c p l)) ∧ H c = some (.lst (cells.map V.int)) ∧ 0 < cells.length ∧ cells.length ≤ 63 ∧ p ≤ n ∧ 0 ≤ l
section
variable {H H' : Hp} {t c : Addr} {n m : Nat}
theorem Tape.dk (T : Tape H t c n) : ∃ kvs, H t = some (.dK kvs) := by
  obtain ⟨cells, p, l, h, _⟩ := T.ex
  exact ⟨_, h⟩
theorem Tape.same (T : Tape H t c n) (s : Same H H') : Tape H' t c n := by
  obtain ⟨cells, p, l, h, hc, r⟩ := T.ex
  exact ⟨cells, p, l, s _ _ h, s _ _ hc, r⟩
theorem Tape.kp (T : Tape H t c n) (s : Same H H') : Kp t H H' := by
  obtain ⟨kvs, h⟩ := T.dk
  exact Kp.of h s
theorem Tape.mono (T : Tape H t c n) (h : n ≤ m) : Tape H t c m := by
  obtain ⟨cells, p, l, h1, h2, h3, h4, h5, h6⟩ := T.ex
  exact ⟨cells, p, l, h1, h2, h3, h4, Nat.le_trans h5 h, h6⟩
theorem Kp.refl (T : Tape H t c n) : Kp t H H := T.kp (Same.refl H)
/-- a store at an object that is not the tape's -/
theorem Tape.upd {D : Addr} {o : HO} (T : Tape H t c n) (h1 : D ≠ t) (h2 : D ≠ c) : Tape (upd H D o) t c n := by
  obtain ⟨cells, p, l, h, hc, r⟩ := T.ex
  exact ⟨cells, p, l, (upd_ne h1.symm).trans h, (upd_ne h2.symm).trans hc, r⟩
theorem Tape.ne1 {D : Addr} (T : Tape H t c n) (h : H D = none) : D ≠ t := fun z => by
  obtain ⟨cells, p, l, e, hc, r⟩ := T.ex
  rw [z, e] at h
  cases h
theorem Tape.ne2 {D : Addr} (T : Tape H t c n) (h : H D = none) : D ≠ c := fun z => by
  obtain ⟨cells, p, l, e, hc, r⟩ := T.ex
  rw [z, hc] at h
  cases h
theorem Kp.put {D : Addr} {o : HO} (k : Kp t H H') (h : H D = Option.none) (h1 : D ≠ t) : Kp t H (L2.upd H' D o) := by
  obtain ⟨kvs, e⟩ := k.new
  refine ⟨k.old, ⟨kvs, (upd_ne h1.symm).trans e⟩, fun b u n q => ?_⟩
  rw [upd_ne (ne_of_none q h)]
  exact k.oth b u n q
end
theorem ks1 : ¬ (("cells" : Str) = "place") := by decide +kernel
theorem ks2 : ¬ (("cells" : Str) = "left") := by decide +kernel
theorem ks3 : ¬ (("place" : Str) = "left") := by decide +kernel
theorem ks1' : ¬ (("place" : Str) = "cells") := by decide +kernel
theorem ks2' : ¬ (("left" : Str) = "cells") := by decide +kernel
theorem ks3' : ¬ (("left" : Str) = "place") := by decide +kernel
theorem tp_cells (c : Addr) (p l : Int) : valV (tpd c p l) (Sum.inr ("cells" : Str)) = some (.ref c) := by simp [tpd, valV]
theorem tp_place (c : Addr) (p l : Int) : valV (tpd c p l) (Sum.inr ("place" : Str)) = some (.int p) := by simp [tpd, valV, ks1]
theorem tp_left (c : Addr) (p l : Int) : valV (tpd c p l) (Sum.inr ("left" : Str)) = some (.int l) := by simp [tpd, valV, ks2, ks3]
theorem tp_put_place (c : Addr) (p q l : Int) : putK (tpd c p l) (Sum.inr ("place" : Str)) (.int q) = tpd c q l := by simp [putK, tpd, ks1, ks3']
theorem tp_put_left (c : Addr) (p l m : Int) : putK (tpd c p l) (Sum.inr ("left" : Str)) (.int m) = tpd c p m := by simp [putK, tpd, ks2, ks3]
theorem tp_merge (c : Addr) (p l : Int) : mergeK [] (tpd c p l) = tpd c p l := by simp [mergeK, putK, tpd, ks1, ks2, ks3]
theorem g_cells {H : Hp} {t c : Addr} {p l : Int} (h : H t = some (.dK (tpd c p l))) : DGet H t (.str "cells") (some (.ref c)) := by
  have q := DGet.k (k := Sum.inr ("cells" : Str)) h
  rw [tp_cells] at q
  exact q
theorem g_place {H : Hp} {t c : Addr} {p l : Int} (h : H t = some (.dK (tpd c p l))) : DGet H t (.str "place") (some (.int p)) := by
  have q := DGet.k (k := Sum.inr ("place" : Str)) h
  rw [tp_place] at q
  exact q
theorem g_left {H : Hp} {t c : Addr} {p l : Int} (h : H t = some (.dK (tpd c p l))) : DGet H t (.str "left") (some (.int l)) := by
  have q := DGet.k (k := Sum.inr ("left" : Str)) h
  rw [tp_left] at q
  exact q
theorem p_place {H : Hp} {t c : Addr} {p l : Int} (q : Int) (h : H t = some (.dK (tpd c p l))) : DPut H t (.str "place") (.int q) (upd H t (.dK (tpd c q l))) := by
  have z := DPut.k (k := Sum.inr ("place" : Str)) (v := V.int q) h (by show 3 < sizeLine; decide)
  rw [tp_put_place] at z
  exact z
theorem p_left {H : Hp} {t c : Addr} {p l : Int} (q : Int) (h : H t = some (.dK (tpd c p l))) : DPut H t (.str "left") (.int q) (upd H t (.dK (tpd c p q))) := by
  have z := DPut.k (k := Sum.inr ("left" : Str)) (v := V.int q) h (by show 3 < sizeLine; decide)
  rw [tp_put_left] at z
  exact z
def spBegin (K : PySem.W.Frag) : Sp := fun vs H Q _ => ∃ (a : Addr) (ns : List Int), vs = [.ref a] ∧ SqL K H a (ns.map V.int) ∧ ∀ H' t c, Same H H' → H t = none → H c = none → Tape H' t c 0 → Q (.ref t) H'
def spDraw : Sp := fun vs H Q _ => ∃ (t c : Addr) (m : Int) (n : Nat), vs = [.ref t, .int m] ∧ Tape H t c n ∧ n < 2 ^ 40 ∧ 0 < m ∧ m < 2 ^ 30 ∧ ∀ H' r, Kp t H H' → Tape H' t c (n + 1) → 0 ≤ r → r < m → Q (.int r) H'
/-- pick: from a list, from a text -/
def spPick (K : PySem.W.Frag) : Sp := fun vs H Q _ => ∃ (t c : Addr) (n : Nat) (x : V), vs = [.ref t, x] ∧ Tape H t c n ∧ n < 2 ^ 40 ∧
  ((∃ a xs, x = .ref a ∧ SqL K H a xs ∧ xs ≠ [] ∧ xs.length < 2 ^ 30 ∧ ∀ H' y, Kp t H H' → Tape H' t c (n + 1) → y ∈ xs → Q y H') ∨
   (∃ z : Str, x = .str z ∧ z.length ≠ 0 ∧ z.length < 2 ^ 20 ∧ ∀ H' d, Kp t H H' → Tape H' t c (n + 1) → d ∈ z.cps.toList → Q (.str ⟨#[d]⟩) H'))
section
variable {P : Program} {w : World} {K : PySem.W.Frag} {mg : Str → Option Value} {base : Heap}
theorem scBegin : FnScope ["_law_script"] ["_law_script"] (defScope sBegin) := ⟨rfl, rfl, rfl, by decide +kernel, rfl, by decide +kernel, by decide +kernel⟩
theorem cut63 (ns : List Int) : ∃ ms : List Int, cutV (ns.map V.int) none (some 63) = ms.map V.int ∧ ms.length ≤ 63 := by
  refine ⟨ns.take 63, ?_, ?_⟩
  · unfold cutV
    rw [HT.sIx_none, show HT.sIx (ns.map V.int).length (ns.map V.int).length (some 63) = min 63 (ns.map V.int).length from HT.sIx_nat _ _ 63, List.map_take]
    show List.take _ (List.drop 0 _) = _
    rw [List.drop_zero, Nat.sub_zero]
    by_cases c : 63 ≤ (ns.map V.int).length
    · rw [Nat.min_eq_left c]
    · rw [Nat.min_eq_right (by omega), List.take_length, List.take_of_length_le (by omega)]
  · rw [List.length_take]
    omega
theorem ok_begin (D : Df K mg "_law_begin" sBegin ["_law_script"]) : FnOk P w K mg base CX0 1 D.f D.fd ["_law_script"] (spBegin K) := by
  refine D.F.ok scBegin (fun vs H Q E h => ?_) (fun cdv A outer s H vs Q E hr h => ?_)
  · obtain ⟨a, ns, rfl, _⟩ := h
    rfl
  · obtain ⟨a, ns, rfl, hS, k⟩ := h
    refine ⟨_, pss_one (ps_ret (pe_disp (pps_cons pe_str (pe_orT (pe_slice sl_list (pv 0) po_none (po_some pe_int)) (pe_one (pe_lst (pa_cons pe_int pa_nil)))) (pps_cons pe_str pe_int (pps_cons pe_str pe_int pps_nil))) (by rfl) (by rfl) (fun z => by cases z) (by decide))), ?_⟩
    intro t ht
    have s1 : Same H (upd H t (.dK [])) := same_upd ht
    obtain ⟨ms, em, hm⟩ := cut63 ns
    refine ⟨_, rfl, 63, rfl, a, ns.map V.int, rfl, s1.seq hS, fun c hc => ?_⟩
    have nct : c ≠ t := fun z => by
      rw [z, upd_same] at hc
      cases hc
    rw [em]
    refine ⟨!(ms.map V.int).isEmpty, .inl ⟨_, SqL.of upd_same, rfl⟩, ite2 (fun e => ?_) (fun e => ?_)⟩
    · refine ⟨Eq.trans (upd_ne nct.symm) upd_same, tpd c 0 0, rfl, by show 3 ≤ 15; decide, ?_⟩
      rw [tp_merge]
      refine k _ t c (fun b o eb => ?_) ht (s1.free hc) ⟨ms, 0, 0, upd_same, Eq.trans (upd_ne nct) upd_same, ?_, hm, Nat.le_refl _, Int.le_refl _⟩
      · have nb : b ≠ t := ne_of_none eb ht
        rw [upd_ne nb]
        exact same_upd hc _ _ (s1 _ _ eb)
      · cases ms with
        | nil => cases e
        | cons x r => exact Nat.succ_pos _
    · refine ⟨by show 1 ≤ sizeLine; decide, fun d hd => ?_⟩
      have ndt : d ≠ t := fun z => by
        rw [z, upd_ne nct.symm, upd_same] at hd
        cases hd
      refine ⟨Eq.trans (upd_ne ndt.symm) (Eq.trans (upd_ne nct.symm) upd_same), tpd d 0 0, rfl, by show 3 ≤ 15; decide, ?_⟩
      rw [tp_merge]
      refine k _ t d (fun b o eb => ?_) ht (s1.free ((same_upd hc).free hd)) ⟨[0], 0, 0, upd_same, Eq.trans (upd_ne ndt) upd_same, Nat.succ_pos _, by decide, Nat.le_refl _, Int.le_refl _⟩
      have nb : b ≠ t := ne_of_none eb ht
      rw [upd_ne nb]
      exact same_upd hd _ _ (same_upd hc _ _ (s1 _ _ eb))
theorem scDraw : FnScope ["_law_tape", "_law_many", "_law_place", "_law_count", "_law_cell", "_law_found"] ["_law_tape", "_law_many"] (defScope sDraw) := ⟨rfl, rfl, rfl, by decide +kernel, rfl, by decide +kernel, by decide +kernel⟩
theorem tape_put {H : Hp} {t c : Addr} {cells : List Int} {n p : Nat} {l : Int} {kvs : List (Key × V)} (e : H t = some (.dK kvs)) (hc : H c = some (.lst (cells.map V.int))) (h1 : 0 < cells.length) (h2 : cells.length ≤ 63) (hp : p ≤ n) (hl : 0 ≤ l) :
    Tape (upd H t (.dK (tpd c p l))) t c n := by
  have nct : c ≠ t := ne_of hc e (by intro z; cases z)
  exact ⟨cells, p, l, upd_same, Eq.trans (upd_ne nct) hc, h1, h2, hp, hl⟩
theorem kp_put {H : Hp} {t : Addr} {kvs kvs' : List (Key × V)} (e : H t = some (.dK kvs)) : Kp t H (upd H t (.dK kvs')) := ⟨⟨_, e⟩, ⟨_, upd_same⟩, fun b o n h => (upd_ne n).trans h⟩
theorem ok_draw (D : Df K mg "_law_draw" sDraw ["_law_tape", "_law_many"]) (ml : mg "len" = none) : FnOk P w K mg base CX0 1 D.f D.fd ["_law_tape", "_law_many"] spDraw := by
  refine D.F.ok scDraw (fun vs H Q E h => ?_) (fun cdv A outer s H vs Q E hr h => ?_)
  · obtain ⟨t, c, m, n, rfl, _⟩ := h
    rfl
  · obtain ⟨t, c, m, n, rfl, T, hn, m0, m1, k⟩ := h
    have hu := hu_of hr
    refine ⟨_, C8.pss_cut (ps_if (pt_cmpR op_lt (pe_dget hu (pv 0) pe_str (fun _ _ => rfl)) (pv 1) (nomark _))
        (pss_cons (ps_par (i := 2) (j := 3) rfl scDraw.nd rfl rfl (by decide) rfl rfl (pa_cons (pe_dget hu (pv 0) pe_str (fun _ _ => rfl)) (pa_cons (pe_callB call_len_seq (by rfl) ml PySem.boot_len (pa_cons (pe_dget hu (pv 0) pe_str (fun _ _ => rfl)) pa_nil)) pa_nil)) (by rfl))
        (pss_cons (ps_asg (pe_tup (pa_cons (pe_ix ix_list (pe_dget hu (pv 0) pe_str (fun _ _ => rfl)) (pe_op op_mod (pv 2) (pv 3)) (fun _ _ => rfl)) (pa_cons (pe_op op_add (pv 2) pe_int) pa_nil)))
            (pg_tup rfl (pgs_cons (pg_name (i := 4) scDraw.nd rfl (.inl rfl)) (pgs_cons (pg_sub (pv 0) pe_str (set_dict hu)) pgs_nil))))
        (pss_cons (ps_dput hu (pv 0) pe_str (pe_op op_mod (pe_op op_pow (pe_op op_add (pe_op op_add (pe_op op_mod (pv 4) pe_int) (pe_op op_mul pe_int (pv 2))) pe_int) pe_int) (pe_op op_add (pe_op op_pow pe_int pe_int) pe_int)) rfl)
        (pss_one (ps_if (pw_and (pt_cmpR op_ge (pv 4) (pe_op op_pow pe_int pe_int) (nomark _)) (pw_and1 (pt_cmpR op_lt (pv 2) (pv 3) (nomark _)))).pt
          (pss_one (ps_dput hu (pv 0) pe_str (pe_op op_sub (pv 4) (pe_op op_pow pe_int pe_int)) rfl)) pss_nil))))) pss_nil)
      (pss_cons (ps_asg (pe_tup (pa_cons (pe_op op_mod (pe_dget hu (pv 0) pe_str (fun _ _ => rfl)) (pv 1)) (pa_cons (pe_op op_fdiv (pe_dget hu (pv 0) pe_str (fun _ _ => rfl)) (pv 1)) pa_nil)))
            (pg_tup rfl (pgs_cons (pg_name (i := 5) scDraw.nd rfl (.inl rfl)) (pgs_cons (pg_sub (pv 0) pe_str (set_dict hu)) pgs_nil))))
      (pss_one (ps_ret (pv 5)))), ?_⟩
    have m1' : m < 1073741824 := m1
    obtain ⟨cells, p, l, ht, hc, c0, c63, hp, l0⟩ := T.ex
    refine ⟨fun σ' H' => ∃ y2 y3 y4, σ' = [some (.ref t), some (.int m), y2, y3, y4, none] ∧ Kp t H H' ∧ Tape H' t c (n + 1), ?_, ?_⟩
    · refine ⟨.ref t, rfl, t, .int l, rfl, g_left ht, .int m, rfl, l, m, rfl, rfl, _, rfl, ite2 (fun e => ?_) (fun e => ?_)⟩
      · refine ⟨.ref t, rfl, t, .int p, rfl, g_place ht, .ref t, rfl, t, .ref c, rfl, g_cells ht, c, _, rfl, .inl (SqL.of hc), _, _, rfl, ?_⟩
        have lp : 0 < (cells.map V.int).length := by
          rw [List.length_map]
          exact c0
        have jl : p % (cells.map V.int).length < cells.length := by
          have := Nat.mod_lt p lp
          rw [List.length_map] at this ⊢
          exact this
        have ga : (cells.map V.int)[p % (cells.map V.int).length]? = some (.int cells[p % (cells.map V.int).length]) := by
          rw [List.getElem?_map, List.getElem?_eq_getElem jl]
          rfl
        generalize cells[p % (cells.map V.int).length] = z at ga
        refine ⟨.ref t, rfl, t, .ref c, rfl, g_cells ht, _, rfl, _, rfl, (p : Int), ((cells.map V.int).length : Int), rfl, rfl, by omega, c, _, _, .int z, rfl, rfl, SqL.of hc, at_of (j := p % (cells.map V.int).length) (by rw [Int.natCast_emod]) ga, .int p, rfl, (p : Int), 1, rfl, rfl, by show 2 ≤ sizeLine; decide, fun q hq => ?_⟩
        have s1 : Same H (upd H q (.tup [.int z, .int ((p : Int) + 1)])) := same_upd hq
        have ht1 := s1 _ _ ht
        have hc1 := s1 _ _ hc
        have nct : c ≠ t := ne_of hc ht (by intro z; cases z)
        refine ⟨q, _, rfl, SqT.of upd_same, rfl, _, _, rfl, _, _, rfl, .ref t, rfl, t, _, rfl, p_place ((p : Int) + 1) ht1, rfl, ?_⟩
        have hn' : n < 1099511627776 := hn
        have zm0 : 0 ≤ z % 2147483647 := Int.emod_nonneg _ (by decide)
        have zm1 : z % 2147483647 < 2147483647 := Int.emod_lt_of_pos _ (by decide)
        have b0 : (z % 2147483647 + 69621 * (p : Int) + 48271).natAbs < 2 ^ 64 := by omega
        refine ⟨.int z, rfl, z, 2147483647, rfl, rfl, (by show (0 : Int) < 2147483647; decide), .int p, rfl, 69621, (p : Int), rfl, rfl, .inl ⟨by decide, by decide⟩, _, _, rfl, rfl, _, 48271, rfl, rfl, _, 17, rfl, rfl, ⟨by decide, by decide, b0⟩, 10, 50, rfl, rfl, ⟨by decide, by decide, by decide⟩, _, 151, rfl, rfl, _, _, rfl, rfl, ?_, ?_⟩
        · exact (by decide +kernel : (0 : Int) < 10 ^ (50 : Int).toNat + 151)
        have ht2 : (upd (upd H q (.tup [.int z, .int ((p : Int) + 1)])) t (.dK (tpd c ((p : Int) + 1) l))) t = some (.dK (tpd c ((p : Int) + 1) l)) := upd_same
        refine ⟨.ref t, rfl, t, _, rfl, p_left ((z % 2147483647 + 69621 * (p : Int) + 48271) ^ (17 : Int).toNat % (10 ^ (50 : Int).toNat + 151)) ht2, ?_⟩
        have x0 : 0 ≤ (z % 2147483647 + 69621 * (p : Int) + 48271) ^ (17 : Int).toNat % (10 ^ (50 : Int).toNat + 151) := Int.emod_nonneg _ (by decide +kernel)
        generalize (z % 2147483647 + 69621 * (p : Int) + 48271) ^ (17 : Int).toNat % (10 ^ (50 : Int).toNat + 151) = x17 at x0 ⊢
        have k3 : Kp t H (upd (upd (upd H q (.tup [.int z, .int ((p : Int) + 1)])) t (.dK (tpd c ((p : Int) + 1) l))) t (.dK (tpd c ((p : Int) + 1) x17))) := ((Kp.of ht s1).trans (kp_put ht1)).trans (kp_put ht2)
        have hc3 := k3.at hc (fun _ z => by cases z)
        refine ⟨.int z, rfl, 10, 18, rfl, rfl, ⟨by decide, by decide, by decide⟩, z, _, rfl, rfl, _, rfl, ite2 (fun e2 => ?_) (fun e2 => ?_)⟩
        · refine ⟨.int p, rfl, _, rfl, _, _, rfl, rfl, _, rfl, ite2 (fun e3 => ?_) (fun e3 => ?_)⟩
          · have hz : (0 : Int) ≤ z - 10 ^ (18 : Int).toNat := by
              have e4 : (10 : Int) ^ (18 : Int).toNat ≤ z := of_decide_eq_true e2
              omega
            refine ⟨.int z, rfl, 10, 18, rfl, rfl, ⟨by decide, by decide, by decide⟩, z, _, rfl, rfl, .ref t, rfl, t, _, rfl, p_left (z - 10 ^ (18 : Int).toNat) upd_same, ?_⟩
            exact ⟨_, _, _, rfl, k3.trans (kp_put upd_same), tape_put (p := p + 1) upd_same hc3 c0 c63 (by omega) hz⟩
          · exact ⟨_, _, _, rfl, k3, ⟨cells, p + 1, x17, upd_same, hc3, c0, c63, by omega, x0⟩⟩
        · exact ⟨_, _, _, rfl, k3, ⟨cells, p + 1, x17, upd_same, hc3, c0, c63, by omega, x0⟩⟩
      · exact ⟨none, none, none, rfl, Kp.refl T, T.mono (Nat.le_succ n)⟩
    · rintro σ' H' ⟨y2, y3, y4, rfl, k1, T1⟩
      obtain ⟨cells, p, l, ht, hc, c0, c63, hp, l0⟩ := T1.ex
      refine ⟨.ref t, rfl, t, .int l, rfl, g_left ht, .int m, rfl, l, m, rfl, rfl, m0, .ref t, rfl, t, .int l, rfl, g_left ht, .int m, rfl, l, m, rfl, rfl, ⟨m0, m1⟩, by show 2 ≤ sizeLine; decide, fun q hq => ?_⟩
      have s1 : Same H' (upd H' q (.tup [.int (l % m), .int (l / m)])) := same_upd hq
      have ht1 := s1 _ _ ht
      refine ⟨q, _, rfl, SqT.of upd_same, rfl, _, _, rfl, _, _, rfl, .ref t, rfl, t, _, rfl, p_left (l / m) ht1, rfl, ?_⟩
      refine ⟨_, rfl, k _ _ ((k1.trans (T1.kp s1)).trans (kp_put ht1)) (tape_put ht1 (s1 _ _ hc) c0 c63 hp (Int.ediv_nonneg l0 (by omega))) (Int.emod_nonneg _ (by omega)) (Int.emod_lt_of_pos _ m0)⟩
theorem at_cp {α : Type} {xs : List α} {z : Int} {j : Nat} {v : α} (e : z = (j : Int)) (h : xs[j]? = some v) : atI xs z = some v := by
  rw [e]
  exact atI_nat h
theorem scPick : FnScope ["_law_tape", "_law_items"] ["_law_tape", "_law_items"] (defScope sPick) := ⟨rfl, rfl, rfl, by decide +kernel, rfl, by decide +kernel, by decide +kernel⟩
theorem ok_pick (D : Df K mg "_law_pick" sPick ["_law_tape", "_law_items"]) (Dd : Df K mg "_law_draw" sDraw ["_law_tape", "_law_many"]) (ml : mg "len" = none) : FnOk P w K mg base CX0 2 D.f D.fd ["_law_tape", "_law_items"] (spPick K) := by
  have Gd : FnOk P w K mg base CX0 1 Dd.f Dd.fd ["_law_tape", "_law_many"] spDraw := ok_draw Dd ml
  refine D.F.ok scPick (fun vs H Q E h => ?_) (fun cdv A outer s H vs Q E hr h => ?_)
  · obtain ⟨t, c, n, x, rfl, _⟩ := h
    rfl
  · obtain ⟨t, c, n, x, rfl, T, hn, h⟩ := h
    rcases h with ⟨a, xs, rfl, hx, ne, hl, k⟩ | ⟨z, rfl, ne, hl, k⟩
    · refine ⟨_, pss_one (ps_ret (pe_ix ix_list (pv 1) (pe_call Gd hr (by rfl) Dd.g Dd.F.kp Dd.b .nil pass0 (pa_cons (pv 0) (pa_cons (pe_callB call_len_seq (by rfl) ml PySem.boot_len (pa_cons (pv 1) pa_nil)) pa_nil))) (fun _ _ => rfl))), ?_⟩
      have l0 : 0 < xs.length := List.length_pos_iff.mpr ne
      refine ⟨.ref a, rfl, .ref t, rfl, .ref a, rfl, a, xs, rfl, .inl hx, t, c, _, n, rfl, T, hn, by omega, by omega, fun H' r k1 T1 r0 r1 => ?_⟩
      have rl : r.toNat < xs.length := by omega
      refine ⟨a, xs, r, xs[r.toNat], rfl, rfl, k1.lst hx, at_of (j := r.toNat) (by omega) (List.getElem?_eq_getElem rl), k H' _ k1 T1 (List.getElem_mem rl)⟩
    · refine ⟨_, pss_one (ps_ret (pe_ix ix_str (pv 1) (pe_call Gd hr (by rfl) Dd.g Dd.F.kp Dd.b .nil pass0 (pa_cons (pv 0) (pa_cons (pe_callB call_len_str (by rfl) ml PySem.boot_len (pa_cons (pv 1) pa_nil)) pa_nil))) (fun _ _ => rfl))), ?_⟩
      have zl : z.cps.toList.length = z.length := Array.length_toList
      refine ⟨.str z, rfl, .ref t, rfl, .str z, rfl, z, rfl, ?_, t, c, _, n, rfl, T, hn, by omega, by omega, fun H' r k1 T1 r0 r1 => ?_⟩
      · rw [sizeLine_eq]; omega
      have rl : r.toNat < z.cps.toList.length := by omega
      refine ⟨z, r, z.cps.toList[r.toNat], rfl, rfl, ?_, at_cp (by omega) (List.getElem?_eq_getElem rl), k H' _ k1 T1 (List.getElem_mem rl)⟩
      rw [sizeLine_eq]
      omega
end
end DW
namespace DW
open PySem PySem.Spec PyProof.Rows L2
structure Bl (mg : Str → Option Value) : Prop where
  len : mg "len" = none
  range : mg "range" = none
  sorted : mg "sorted" = none
  set : mg "set" = none
end DW
/-! k22: errors as values -/
namespace DW
open PySem PySem.Spec PyProof.Rows L2 TL
set_option autoImplicit false
section
variable {P : Program} {w : World} {K : PySem.W.Frag} {mg : Str → Option Value} {base : Heap}
structure Ds (P : Program) (K : PySem.W.Frag) (mg : Str → Option Value) where
  begin : Df K mg "_law_begin" sBegin ["_law_script"]
  draw : Df K mg "_law_draw" sDraw ["_law_tape", "_law_many"]
  pick : Df K mg "_law_pick" sPick ["_law_tape", "_law_items"]
  kinds : Df K mg "_law_kinds" sLKinds ["_law_e"]
  B : Bl mg
  b_isinstance : mg "isinstance" = none
  b_ValueError : mg "ValueError" = none
  e_InvalidAlphabet : EX.DfE0 K mg "InvalidAlphabet"
  e_AlphabetMismatch : EX.DfE0 K mg "AlphabetMismatch"
  e_InvalidDefinition : EX.DfE0 K mg "InvalidDefinition"
  e_NothingToUndo : EX.DfE0 K mg "NothingToUndo"
  e_NothingToRedo : EX.DfE0 K mg "NothingToRedo"
  e_DownwordsError : EX.DfE0 K mg "DownwordsError"
  e_InvalidProduct : EX.DfE P K mg "InvalidProduct" "index" EX.MsgOk
  e_InvalidExpression : EX.DfE P K mg "InvalidExpression" "index" EX.MsgOk
  e_InvalidProduction : EX.DfE P K mg "InvalidProduction" "index" EX.MsgOk
  e_TooLarge : EX.DfE P K mg "TooLarge" "limit" EX.MsgOk
  e_TooMany : EX.DfE P K mg "TooMany" "limit" EX.MsgOk
  e_NoSuchWord : EX.DfE P K mg "NoSuchWord" "number" EX.MsgOk
  e_UnknownSymbol : EX.DfE P K mg "UnknownSymbol" "symbol" (fun _ => True)
  e_InvalidText : EX.DfE P K mg "InvalidText" "line" EX.MsgOk
  e_UndefinedName : EX.DfE P K mg "UndefinedName" "name" (fun _ => True)
  e_CyclicDefinition : EX.DfE P K mg "CyclicDefinition" "name" (fun _ => True)
  k_InvalidAlphabet_InvalidAlphabet : PySem.W.kitOne K (.ref e_InvalidAlphabet.C) (.ref e_InvalidAlphabet.C) = some true
  k_InvalidAlphabet_AlphabetMismatch : PySem.W.kitOne K (.ref e_InvalidAlphabet.C) (.ref e_AlphabetMismatch.C) = some false
  k_InvalidAlphabet_InvalidDefinition : PySem.W.kitOne K (.ref e_InvalidAlphabet.C) (.ref e_InvalidDefinition.C) = some false
  k_InvalidAlphabet_NothingToUndo : PySem.W.kitOne K (.ref e_InvalidAlphabet.C) (.ref e_NothingToUndo.C) = some false
  k_InvalidAlphabet_NothingToRedo : PySem.W.kitOne K (.ref e_InvalidAlphabet.C) (.ref e_NothingToRedo.C) = some false
  k_InvalidAlphabet_InvalidProduct : PySem.W.kitOne K (.ref e_InvalidAlphabet.C) (.ref e_InvalidProduct.C) = some false
  k_InvalidAlphabet_InvalidExpression : PySem.W.kitOne K (.ref e_InvalidAlphabet.C) (.ref e_InvalidExpression.C) = some false
  k_InvalidAlphabet_InvalidProduction : PySem.W.kitOne K (.ref e_InvalidAlphabet.C) (.ref e_InvalidProduction.C) = some false
  k_InvalidAlphabet_TooLarge : PySem.W.kitOne K (.ref e_InvalidAlphabet.C) (.ref e_TooLarge.C) = some false
  k_InvalidAlphabet_TooMany : PySem.W.kitOne K (.ref e_InvalidAlphabet.C) (.ref e_TooMany.C) = some false
  k_InvalidAlphabet_NoSuchWord : PySem.W.kitOne K (.ref e_InvalidAlphabet.C) (.ref e_NoSuchWord.C) = some false
  k_InvalidAlphabet_UnknownSymbol : PySem.W.kitOne K (.ref e_InvalidAlphabet.C) (.ref e_UnknownSymbol.C) = some false
  k_InvalidAlphabet_InvalidText : PySem.W.kitOne K (.ref e_InvalidAlphabet.C) (.ref e_InvalidText.C) = some false
  k_InvalidAlphabet_UndefinedName : PySem.W.kitOne K (.ref e_InvalidAlphabet.C) (.ref e_UndefinedName.C) = some false
  k_InvalidAlphabet_CyclicDefinition : PySem.W.kitOne K (.ref e_InvalidAlphabet.C) (.ref e_CyclicDefinition.C) = some false
  k_AlphabetMismatch_InvalidAlphabet : PySem.W.kitOne K (.ref e_AlphabetMismatch.C) (.ref e_InvalidAlphabet.C) = some false
  k_AlphabetMismatch_AlphabetMismatch : PySem.W.kitOne K (.ref e_AlphabetMismatch.C) (.ref e_AlphabetMismatch.C) = some true
  k_AlphabetMismatch_InvalidDefinition : PySem.W.kitOne K (.ref e_AlphabetMismatch.C) (.ref e_InvalidDefinition.C) = some false
  k_AlphabetMismatch_NothingToUndo : PySem.W.kitOne K (.ref e_AlphabetMismatch.C) (.ref e_NothingToUndo.C) = some false
  k_AlphabetMismatch_NothingToRedo : PySem.W.kitOne K (.ref e_AlphabetMismatch.C) (.ref e_NothingToRedo.C) = some false
  k_AlphabetMismatch_InvalidProduct : PySem.W.kitOne K (.ref e_AlphabetMismatch.C) (.ref e_InvalidProduct.C) = some false
  k_AlphabetMismatch_InvalidExpression : PySem.W.kitOne K (.ref e_AlphabetMismatch.C) (.ref e_InvalidExpression.C) = some false
  k_AlphabetMismatch_InvalidProduction : PySem.W.kitOne K (.ref e_AlphabetMismatch.C) (.ref e_InvalidProduction.C) = some false
  k_AlphabetMismatch_TooLarge : PySem.W.kitOne K (.ref e_AlphabetMismatch.C) (.ref e_TooLarge.C) = some false
  k_AlphabetMismatch_TooMany : PySem.W.kitOne K (.ref e_AlphabetMismatch.C) (.ref e_TooMany.C) = some false
  k_AlphabetMismatch_NoSuchWord : PySem.W.kitOne K (.ref e_AlphabetMismatch.C) (.ref e_NoSuchWord.C) = some false
  k_AlphabetMismatch_UnknownSymbol : PySem.W.kitOne K (.ref e_AlphabetMismatch.C) (.ref e_UnknownSymbol.C) = some false
  k_AlphabetMismatch_InvalidText : PySem.W.kitOne K (.ref e_AlphabetMismatch.C) (.ref e_InvalidText.C) = some false
  k_AlphabetMismatch_UndefinedName : PySem.W.kitOne K (.ref e_AlphabetMismatch.C) (.ref e_UndefinedName.C) = some false
  k_AlphabetMismatch_CyclicDefinition : PySem.W.kitOne K (.ref e_AlphabetMismatch.C) (.ref e_CyclicDefinition.C) = some false
  k_InvalidDefinition_InvalidAlphabet : PySem.W.kitOne K (.ref e_InvalidDefinition.C) (.ref e_InvalidAlphabet.C) = some false
  k_InvalidDefinition_AlphabetMismatch : PySem.W.kitOne K (.ref e_InvalidDefinition.C) (.ref e_AlphabetMismatch.C) = some false
  k_InvalidDefinition_InvalidDefinition : PySem.W.kitOne K (.ref e_InvalidDefinition.C) (.ref e_InvalidDefinition.C) = some true
  k_InvalidDefinition_NothingToUndo : PySem.W.kitOne K (.ref e_InvalidDefinition.C) (.ref e_NothingToUndo.C) = some false
  k_InvalidDefinition_NothingToRedo : PySem.W.kitOne K (.ref e_InvalidDefinition.C) (.ref e_NothingToRedo.C) = some false
  k_InvalidDefinition_InvalidProduct : PySem.W.kitOne K (.ref e_InvalidDefinition.C) (.ref e_InvalidProduct.C) = some false
  k_InvalidDefinition_InvalidExpression : PySem.W.kitOne K (.ref e_InvalidDefinition.C) (.ref e_InvalidExpression.C) = some false
  k_InvalidDefinition_InvalidProduction : PySem.W.kitOne K (.ref e_InvalidDefinition.C) (.ref e_InvalidProduction.C) = some false
  k_InvalidDefinition_TooLarge : PySem.W.kitOne K (.ref e_InvalidDefinition.C) (.ref e_TooLarge.C) = some false
  k_InvalidDefinition_TooMany : PySem.W.kitOne K (.ref e_InvalidDefinition.C) (.ref e_TooMany.C) = some false
  k_InvalidDefinition_NoSuchWord : PySem.W.kitOne K (.ref e_InvalidDefinition.C) (.ref e_NoSuchWord.C) = some false
  k_InvalidDefinition_UnknownSymbol : PySem.W.kitOne K (.ref e_InvalidDefinition.C) (.ref e_UnknownSymbol.C) = some false
  k_InvalidDefinition_InvalidText : PySem.W.kitOne K (.ref e_InvalidDefinition.C) (.ref e_InvalidText.C) = some false
  k_InvalidDefinition_UndefinedName : PySem.W.kitOne K (.ref e_InvalidDefinition.C) (.ref e_UndefinedName.C) = some false
  k_InvalidDefinition_CyclicDefinition : PySem.W.kitOne K (.ref e_InvalidDefinition.C) (.ref e_CyclicDefinition.C) = some false
  k_NothingToUndo_InvalidAlphabet : PySem.W.kitOne K (.ref e_NothingToUndo.C) (.ref e_InvalidAlphabet.C) = some false
  k_NothingToUndo_AlphabetMismatch : PySem.W.kitOne K (.ref e_NothingToUndo.C) (.ref e_AlphabetMismatch.C) = some false
  k_NothingToUndo_InvalidDefinition : PySem.W.kitOne K (.ref e_NothingToUndo.C) (.ref e_InvalidDefinition.C) = some false
  k_NothingToUndo_NothingToUndo : PySem.W.kitOne K (.ref e_NothingToUndo.C) (.ref e_NothingToUndo.C) = some true
  k_NothingToUndo_NothingToRedo : PySem.W.kitOne K (.ref e_NothingToUndo.C) (.ref e_NothingToRedo.C) = some false
  k_NothingToUndo_InvalidProduct : PySem.W.kitOne K (.ref e_NothingToUndo.C) (.ref e_InvalidProduct.C) = some false
  k_NothingToUndo_InvalidExpression : PySem.W.kitOne K (.ref e_NothingToUndo.C) (.ref e_InvalidExpression.C) = some false
  k_NothingToUndo_InvalidProduction : PySem.W.kitOne K (.ref e_NothingToUndo.C) (.ref e_InvalidProduction.C) = some false
  k_NothingToUndo_TooLarge : PySem.W.kitOne K (.ref e_NothingToUndo.C) (.ref e_TooLarge.C) = some false
  k_NothingToUndo_TooMany : PySem.W.kitOne K (.ref e_NothingToUndo.C) (.ref e_TooMany.C) = some false
  k_NothingToUndo_NoSuchWord : PySem.W.kitOne K (.ref e_NothingToUndo.C) (.ref e_NoSuchWord.C) = some false
  k_NothingToUndo_UnknownSymbol : PySem.W.kitOne K (.ref e_NothingToUndo.C) (.ref e_UnknownSymbol.C) = some false
  k_NothingToUndo_InvalidText : PySem.W.kitOne K (.ref e_NothingToUndo.C) (.ref e_InvalidText.C) = some false
  k_NothingToUndo_UndefinedName : PySem.W.kitOne K (.ref e_NothingToUndo.C) (.ref e_UndefinedName.C) = some false
  k_NothingToUndo_CyclicDefinition : PySem.W.kitOne K (.ref e_NothingToUndo.C) (.ref e_CyclicDefinition.C) = some false
  k_NothingToRedo_InvalidAlphabet : PySem.W.kitOne K (.ref e_NothingToRedo.C) (.ref e_InvalidAlphabet.C) = some false
  k_NothingToRedo_AlphabetMismatch : PySem.W.kitOne K (.ref e_NothingToRedo.C) (.ref e_AlphabetMismatch.C) = some false
  k_NothingToRedo_InvalidDefinition : PySem.W.kitOne K (.ref e_NothingToRedo.C) (.ref e_InvalidDefinition.C) = some false
  k_NothingToRedo_NothingToUndo : PySem.W.kitOne K (.ref e_NothingToRedo.C) (.ref e_NothingToUndo.C) = some false
  k_NothingToRedo_NothingToRedo : PySem.W.kitOne K (.ref e_NothingToRedo.C) (.ref e_NothingToRedo.C) = some true
  k_NothingToRedo_InvalidProduct : PySem.W.kitOne K (.ref e_NothingToRedo.C) (.ref e_InvalidProduct.C) = some false
  k_NothingToRedo_InvalidExpression : PySem.W.kitOne K (.ref e_NothingToRedo.C) (.ref e_InvalidExpression.C) = some false
  k_NothingToRedo_InvalidProduction : PySem.W.kitOne K (.ref e_NothingToRedo.C) (.ref e_InvalidProduction.C) = some false
  k_NothingToRedo_TooLarge : PySem.W.kitOne K (.ref e_NothingToRedo.C) (.ref e_TooLarge.C) = some false
  k_NothingToRedo_TooMany : PySem.W.kitOne K (.ref e_NothingToRedo.C) (.ref e_TooMany.C) = some false
  k_NothingToRedo_NoSuchWord : PySem.W.kitOne K (.ref e_NothingToRedo.C) (.ref e_NoSuchWord.C) = some false
  k_NothingToRedo_UnknownSymbol : PySem.W.kitOne K (.ref e_NothingToRedo.C) (.ref e_UnknownSymbol.C) = some false
  k_NothingToRedo_InvalidText : PySem.W.kitOne K (.ref e_NothingToRedo.C) (.ref e_InvalidText.C) = some false
  k_NothingToRedo_UndefinedName : PySem.W.kitOne K (.ref e_NothingToRedo.C) (.ref e_UndefinedName.C) = some false
  k_NothingToRedo_CyclicDefinition : PySem.W.kitOne K (.ref e_NothingToRedo.C) (.ref e_CyclicDefinition.C) = some false
  k_InvalidProduct_InvalidAlphabet : PySem.W.kitOne K (.ref e_InvalidProduct.C) (.ref e_InvalidAlphabet.C) = some false
  k_InvalidProduct_AlphabetMismatch : PySem.W.kitOne K (.ref e_InvalidProduct.C) (.ref e_AlphabetMismatch.C) = some false
  k_InvalidProduct_InvalidDefinition : PySem.W.kitOne K (.ref e_InvalidProduct.C) (.ref e_InvalidDefinition.C) = some false
  k_InvalidProduct_NothingToUndo : PySem.W.kitOne K (.ref e_InvalidProduct.C) (.ref e_NothingToUndo.C) = some false
  k_InvalidProduct_NothingToRedo : PySem.W.kitOne K (.ref e_InvalidProduct.C) (.ref e_NothingToRedo.C) = some false
  k_InvalidProduct_InvalidProduct : PySem.W.kitOne K (.ref e_InvalidProduct.C) (.ref e_InvalidProduct.C) = some true
  k_InvalidProduct_InvalidExpression : PySem.W.kitOne K (.ref e_InvalidProduct.C) (.ref e_InvalidExpression.C) = some false
  k_InvalidProduct_InvalidProduction : PySem.W.kitOne K (.ref e_InvalidProduct.C) (.ref e_InvalidProduction.C) = some false
  k_InvalidProduct_TooLarge : PySem.W.kitOne K (.ref e_InvalidProduct.C) (.ref e_TooLarge.C) = some false
  k_InvalidProduct_TooMany : PySem.W.kitOne K (.ref e_InvalidProduct.C) (.ref e_TooMany.C) = some false
  k_InvalidProduct_NoSuchWord : PySem.W.kitOne K (.ref e_InvalidProduct.C) (.ref e_NoSuchWord.C) = some false
  k_InvalidProduct_UnknownSymbol : PySem.W.kitOne K (.ref e_InvalidProduct.C) (.ref e_UnknownSymbol.C) = some false
  k_InvalidProduct_InvalidText : PySem.W.kitOne K (.ref e_InvalidProduct.C) (.ref e_InvalidText.C) = some false
  k_InvalidProduct_UndefinedName : PySem.W.kitOne K (.ref e_InvalidProduct.C) (.ref e_UndefinedName.C) = some false
  k_InvalidProduct_CyclicDefinition : PySem.W.kitOne K (.ref e_InvalidProduct.C) (.ref e_CyclicDefinition.C) = some false
  k_InvalidExpression_InvalidAlphabet : PySem.W.kitOne K (.ref e_InvalidExpression.C) (.ref e_InvalidAlphabet.C) = some false
  k_InvalidExpression_AlphabetMismatch : PySem.W.kitOne K (.ref e_InvalidExpression.C) (.ref e_AlphabetMismatch.C) = some false
  k_InvalidExpression_InvalidDefinition : PySem.W.kitOne K (.ref e_InvalidExpression.C) (.ref e_InvalidDefinition.C) = some false
  k_InvalidExpression_NothingToUndo : PySem.W.kitOne K (.ref e_InvalidExpression.C) (.ref e_NothingToUndo.C) = some false
  k_InvalidExpression_NothingToRedo : PySem.W.kitOne K (.ref e_InvalidExpression.C) (.ref e_NothingToRedo.C) = some false
  k_InvalidExpression_InvalidProduct : PySem.W.kitOne K (.ref e_InvalidExpression.C) (.ref e_InvalidProduct.C) = some false
  k_InvalidExpression_InvalidExpression : PySem.W.kitOne K (.ref e_InvalidExpression.C) (.ref e_InvalidExpression.C) = some true
  k_InvalidExpression_InvalidProduction : PySem.W.kitOne K (.ref e_InvalidExpression.C) (.ref e_InvalidProduction.C) = some false
  k_InvalidExpression_TooLarge : PySem.W.kitOne K (.ref e_InvalidExpression.C) (.ref e_TooLarge.C) = some false
  k_InvalidExpression_TooMany : PySem.W.kitOne K (.ref e_InvalidExpression.C) (.ref e_TooMany.C) = some false
  k_InvalidExpression_NoSuchWord : PySem.W.kitOne K (.ref e_InvalidExpression.C) (.ref e_NoSuchWord.C) = some false
  k_InvalidExpression_UnknownSymbol : PySem.W.kitOne K (.ref e_InvalidExpression.C) (.ref e_UnknownSymbol.C) = some false
  k_InvalidExpression_InvalidText : PySem.W.kitOne K (.ref e_InvalidExpression.C) (.ref e_InvalidText.C) = some false
  k_InvalidExpression_UndefinedName : PySem.W.kitOne K (.ref e_InvalidExpression.C) (.ref e_UndefinedName.C) = some false
  k_InvalidExpression_CyclicDefinition : PySem.W.kitOne K (.ref e_InvalidExpression.C) (.ref e_CyclicDefinition.C) = some false
  k_InvalidProduction_InvalidAlphabet : PySem.W.kitOne K (.ref e_InvalidProduction.C) (.ref e_InvalidAlphabet.C) = some false
  k_InvalidProduction_AlphabetMismatch : PySem.W.kitOne K (.ref e_InvalidProduction.C) (.ref e_AlphabetMismatch.C) = some false
  k_InvalidProduction_InvalidDefinition : PySem.W.kitOne K (.ref e_InvalidProduction.C) (.ref e_InvalidDefinition.C) = some false
  k_InvalidProduction_NothingToUndo : PySem.W.kitOne K (.ref e_InvalidProduction.C) (.ref e_NothingToUndo.C) = some false
  k_InvalidProduction_NothingToRedo : PySem.W.kitOne K (.ref e_InvalidProduction.C) (.ref e_NothingToRedo.C) = some false
  k_InvalidProduction_InvalidProduct : PySem.W.kitOne K (.ref e_InvalidProduction.C) (.ref e_InvalidProduct.C) = some false
  k_InvalidProduction_InvalidExpression : PySem.W.kitOne K (.ref e_InvalidProduction.C) (.ref e_InvalidExpression.C) = some false
  k_InvalidProduction_InvalidProduction : PySem.W.kitOne K (.ref e_InvalidProduction.C) (.ref e_InvalidProduction.C) = some true
  k_InvalidProduction_TooLarge : PySem.W.kitOne K (.ref e_InvalidProduction.C) (.ref e_TooLarge.C) = some false
  k_InvalidProduction_TooMany : PySem.W.kitOne K (.ref e_InvalidProduction.C) (.ref e_TooMany.C) = some false
  k_InvalidProduction_NoSuchWord : PySem.W.kitOne K (.ref e_InvalidProduction.C) (.ref e_NoSuchWord.C) = some false
  k_InvalidProduction_UnknownSymbol : PySem.W.kitOne K (.ref e_InvalidProduction.C) (.ref e_UnknownSymbol.C) = some false
  k_InvalidProduction_InvalidText : PySem.W.kitOne K (.ref e_InvalidProduction.C) (.ref e_InvalidText.C) = some false
  k_InvalidProduction_UndefinedName : PySem.W.kitOne K (.ref e_InvalidProduction.C) (.ref e_UndefinedName.C) = some false
  k_InvalidProduction_CyclicDefinition : PySem.W.kitOne K (.ref e_InvalidProduction.C) (.ref e_CyclicDefinition.C) = some false
  k_TooLarge_InvalidAlphabet : PySem.W.kitOne K (.ref e_TooLarge.C) (.ref e_InvalidAlphabet.C) = some false
  k_TooLarge_AlphabetMismatch : PySem.W.kitOne K (.ref e_TooLarge.C) (.ref e_AlphabetMismatch.C) = some false
  k_TooLarge_InvalidDefinition : PySem.W.kitOne K (.ref e_TooLarge.C) (.ref e_InvalidDefinition.C) = some false
  k_TooLarge_NothingToUndo : PySem.W.kitOne K (.ref e_TooLarge.C) (.ref e_NothingToUndo.C) = some false
  k_TooLarge_NothingToRedo : PySem.W.kitOne K (.ref e_TooLarge.C) (.ref e_NothingToRedo.C) = some false
  k_TooLarge_InvalidProduct : PySem.W.kitOne K (.ref e_TooLarge.C) (.ref e_InvalidProduct.C) = some false
  k_TooLarge_InvalidExpression : PySem.W.kitOne K (.ref e_TooLarge.C) (.ref e_InvalidExpression.C) = some false
  k_TooLarge_InvalidProduction : PySem.W.kitOne K (.ref e_TooLarge.C) (.ref e_InvalidProduction.C) = some false
  k_TooLarge_TooLarge : PySem.W.kitOne K (.ref e_TooLarge.C) (.ref e_TooLarge.C) = some true
  k_TooLarge_TooMany : PySem.W.kitOne K (.ref e_TooLarge.C) (.ref e_TooMany.C) = some false
  k_TooLarge_NoSuchWord : PySem.W.kitOne K (.ref e_TooLarge.C) (.ref e_NoSuchWord.C) = some false
  k_TooLarge_UnknownSymbol : PySem.W.kitOne K (.ref e_TooLarge.C) (.ref e_UnknownSymbol.C) = some false
  k_TooLarge_InvalidText : PySem.W.kitOne K (.ref e_TooLarge.C) (.ref e_InvalidText.C) = some false
  k_TooLarge_UndefinedName : PySem.W.kitOne K (.ref e_TooLarge.C) (.ref e_UndefinedName.C) = some false
  k_TooLarge_CyclicDefinition : PySem.W.kitOne K (.ref e_TooLarge.C) (.ref e_CyclicDefinition.C) = some false
  k_TooMany_InvalidAlphabet : PySem.W.kitOne K (.ref e_TooMany.C) (.ref e_InvalidAlphabet.C) = some false
  k_TooMany_AlphabetMismatch : PySem.W.kitOne K (.ref e_TooMany.C) (.ref e_AlphabetMismatch.C) = some false
  k_TooMany_InvalidDefinition : PySem.W.kitOne K (.ref e_TooMany.C) (.ref e_InvalidDefinition.C) = some false
  k_TooMany_NothingToUndo : PySem.W.kitOne K (.ref e_TooMany.C) (.ref e_NothingToUndo.C) = some false
  k_TooMany_NothingToRedo : PySem.W.kitOne K (.ref e_TooMany.C) (.ref e_NothingToRedo.C) = some false
  k_TooMany_InvalidProduct : PySem.W.kitOne K (.ref e_TooMany.C) (.ref e_InvalidProduct.C) = some false
  k_TooMany_InvalidExpression : PySem.W.kitOne K (.ref e_TooMany.C) (.ref e_InvalidExpression.C) = some false
  k_TooMany_InvalidProduction : PySem.W.kitOne K (.ref e_TooMany.C) (.ref e_InvalidProduction.C) = some false
  k_TooMany_TooLarge : PySem.W.kitOne K (.ref e_TooMany.C) (.ref e_TooLarge.C) = some false
  k_TooMany_TooMany : PySem.W.kitOne K (.ref e_TooMany.C) (.ref e_TooMany.C) = some true
  k_TooMany_NoSuchWord : PySem.W.kitOne K (.ref e_TooMany.C) (.ref e_NoSuchWord.C) = some false
  k_TooMany_UnknownSymbol : PySem.W.kitOne K (.ref e_TooMany.C) (.ref e_UnknownSymbol.C) = some false
  k_TooMany_InvalidText : PySem.W.kitOne K (.ref e_TooMany.C) (.ref e_InvalidText.C) = some false
  k_TooMany_UndefinedName : PySem.W.kitOne K (.ref e_TooMany.C) (.ref e_UndefinedName.C) = some false
  k_TooMany_CyclicDefinition : PySem.W.kitOne K (.ref e_TooMany.C) (.ref e_CyclicDefinition.C) = some false
  k_NoSuchWord_InvalidAlphabet : PySem.W.kitOne K (.ref e_NoSuchWord.C) (.ref e_InvalidAlphabet.C) = some false
  k_NoSuchWord_AlphabetMismatch : PySem.W.kitOne K (.ref e_NoSuchWord.C) (.ref e_AlphabetMismatch.C) = some false
  k_NoSuchWord_InvalidDefinition : PySem.W.kitOne K (.ref e_NoSuchWord.C) (.ref e_InvalidDefinition.C) = some false
  k_NoSuchWord_NothingToUndo : PySem.W.kitOne K (.ref e_NoSuchWord.C) (.ref e_NothingToUndo.C) = some false
  k_NoSuchWord_NothingToRedo : PySem.W.kitOne K (.ref e_NoSuchWord.C) (.ref e_NothingToRedo.C) = some false
  k_NoSuchWord_InvalidProduct : PySem.W.kitOne K (.ref e_NoSuchWord.C) (.ref e_InvalidProduct.C) = some false
  k_NoSuchWord_InvalidExpression : PySem.W.kitOne K (.ref e_NoSuchWord.C) (.ref e_InvalidExpression.C) = some false
  k_NoSuchWord_InvalidProduction : PySem.W.kitOne K (.ref e_NoSuchWord.C) (.ref e_InvalidProduction.C) = some false
  k_NoSuchWord_TooLarge : PySem.W.kitOne K (.ref e_NoSuchWord.C) (.ref e_TooLarge.C) = some false
  k_NoSuchWord_TooMany : PySem.W.kitOne K (.ref e_NoSuchWord.C) (.ref e_TooMany.C) = some false
  k_NoSuchWord_NoSuchWord : PySem.W.kitOne K (.ref e_NoSuchWord.C) (.ref e_NoSuchWord.C) = some true
  k_NoSuchWord_UnknownSymbol : PySem.W.kitOne K (.ref e_NoSuchWord.C) (.ref e_UnknownSymbol.C) = some false
  k_NoSuchWord_InvalidText : PySem.W.kitOne K (.ref e_NoSuchWord.C) (.ref e_InvalidText.C) = some false
  k_NoSuchWord_UndefinedName : PySem.W.kitOne K (.ref e_NoSuchWord.C) (.ref e_UndefinedName.C) = some false
  k_NoSuchWord_CyclicDefinition : PySem.W.kitOne K (.ref e_NoSuchWord.C) (.ref e_CyclicDefinition.C) = some false
  k_UnknownSymbol_InvalidAlphabet : PySem.W.kitOne K (.ref e_UnknownSymbol.C) (.ref e_InvalidAlphabet.C) = some false
  k_UnknownSymbol_AlphabetMismatch : PySem.W.kitOne K (.ref e_UnknownSymbol.C) (.ref e_AlphabetMismatch.C) = some false
  k_UnknownSymbol_InvalidDefinition : PySem.W.kitOne K (.ref e_UnknownSymbol.C) (.ref e_InvalidDefinition.C) = some false
  k_UnknownSymbol_NothingToUndo : PySem.W.kitOne K (.ref e_UnknownSymbol.C) (.ref e_NothingToUndo.C) = some false
  k_UnknownSymbol_NothingToRedo : PySem.W.kitOne K (.ref e_UnknownSymbol.C) (.ref e_NothingToRedo.C) = some false
  k_UnknownSymbol_InvalidProduct : PySem.W.kitOne K (.ref e_UnknownSymbol.C) (.ref e_InvalidProduct.C) = some false
  k_UnknownSymbol_InvalidExpression : PySem.W.kitOne K (.ref e_UnknownSymbol.C) (.ref e_InvalidExpression.C) = some false
  k_UnknownSymbol_InvalidProduction : PySem.W.kitOne K (.ref e_UnknownSymbol.C) (.ref e_InvalidProduction.C) = some false
  k_UnknownSymbol_TooLarge : PySem.W.kitOne K (.ref e_UnknownSymbol.C) (.ref e_TooLarge.C) = some false
  k_UnknownSymbol_TooMany : PySem.W.kitOne K (.ref e_UnknownSymbol.C) (.ref e_TooMany.C) = some false
  k_UnknownSymbol_NoSuchWord : PySem.W.kitOne K (.ref e_UnknownSymbol.C) (.ref e_NoSuchWord.C) = some false
  k_UnknownSymbol_UnknownSymbol : PySem.W.kitOne K (.ref e_UnknownSymbol.C) (.ref e_UnknownSymbol.C) = some true
  k_UnknownSymbol_InvalidText : PySem.W.kitOne K (.ref e_UnknownSymbol.C) (.ref e_InvalidText.C) = some false
  k_UnknownSymbol_UndefinedName : PySem.W.kitOne K (.ref e_UnknownSymbol.C) (.ref e_UndefinedName.C) = some false
  k_UnknownSymbol_CyclicDefinition : PySem.W.kitOne K (.ref e_UnknownSymbol.C) (.ref e_CyclicDefinition.C) = some false
  k_InvalidText_InvalidAlphabet : PySem.W.kitOne K (.ref e_InvalidText.C) (.ref e_InvalidAlphabet.C) = some false
  k_InvalidText_AlphabetMismatch : PySem.W.kitOne K (.ref e_InvalidText.C) (.ref e_AlphabetMismatch.C) = some false
  k_InvalidText_InvalidDefinition : PySem.W.kitOne K (.ref e_InvalidText.C) (.ref e_InvalidDefinition.C) = some false
  k_InvalidText_NothingToUndo : PySem.W.kitOne K (.ref e_InvalidText.C) (.ref e_NothingToUndo.C) = some false
  k_InvalidText_NothingToRedo : PySem.W.kitOne K (.ref e_InvalidText.C) (.ref e_NothingToRedo.C) = some false
  k_InvalidText_InvalidProduct : PySem.W.kitOne K (.ref e_InvalidText.C) (.ref e_InvalidProduct.C) = some false
  k_InvalidText_InvalidExpression : PySem.W.kitOne K (.ref e_InvalidText.C) (.ref e_InvalidExpression.C) = some false
  k_InvalidText_InvalidProduction : PySem.W.kitOne K (.ref e_InvalidText.C) (.ref e_InvalidProduction.C) = some false
  k_InvalidText_TooLarge : PySem.W.kitOne K (.ref e_InvalidText.C) (.ref e_TooLarge.C) = some false
  k_InvalidText_TooMany : PySem.W.kitOne K (.ref e_InvalidText.C) (.ref e_TooMany.C) = some false
  k_InvalidText_NoSuchWord : PySem.W.kitOne K (.ref e_InvalidText.C) (.ref e_NoSuchWord.C) = some false
  k_InvalidText_UnknownSymbol : PySem.W.kitOne K (.ref e_InvalidText.C) (.ref e_UnknownSymbol.C) = some false
  k_InvalidText_InvalidText : PySem.W.kitOne K (.ref e_InvalidText.C) (.ref e_InvalidText.C) = some true
  k_InvalidText_UndefinedName : PySem.W.kitOne K (.ref e_InvalidText.C) (.ref e_UndefinedName.C) = some false
  k_InvalidText_CyclicDefinition : PySem.W.kitOne K (.ref e_InvalidText.C) (.ref e_CyclicDefinition.C) = some false
  k_UndefinedName_InvalidAlphabet : PySem.W.kitOne K (.ref e_UndefinedName.C) (.ref e_InvalidAlphabet.C) = some false
  k_UndefinedName_AlphabetMismatch : PySem.W.kitOne K (.ref e_UndefinedName.C) (.ref e_AlphabetMismatch.C) = some false
  k_UndefinedName_InvalidDefinition : PySem.W.kitOne K (.ref e_UndefinedName.C) (.ref e_InvalidDefinition.C) = some false
  k_UndefinedName_NothingToUndo : PySem.W.kitOne K (.ref e_UndefinedName.C) (.ref e_NothingToUndo.C) = some false
  k_UndefinedName_NothingToRedo : PySem.W.kitOne K (.ref e_UndefinedName.C) (.ref e_NothingToRedo.C) = some false
  k_UndefinedName_InvalidProduct : PySem.W.kitOne K (.ref e_UndefinedName.C) (.ref e_InvalidProduct.C) = some false
  k_UndefinedName_InvalidExpression : PySem.W.kitOne K (.ref e_UndefinedName.C) (.ref e_InvalidExpression.C) = some false
  k_UndefinedName_InvalidProduction : PySem.W.kitOne K (.ref e_UndefinedName.C) (.ref e_InvalidProduction.C) = some false
  k_UndefinedName_TooLarge : PySem.W.kitOne K (.ref e_UndefinedName.C) (.ref e_TooLarge.C) = some false
  k_UndefinedName_TooMany : PySem.W.kitOne K (.ref e_UndefinedName.C) (.ref e_TooMany.C) = some false
  k_UndefinedName_NoSuchWord : PySem.W.kitOne K (.ref e_UndefinedName.C) (.ref e_NoSuchWord.C) = some false
  k_UndefinedName_UnknownSymbol : PySem.W.kitOne K (.ref e_UndefinedName.C) (.ref e_UnknownSymbol.C) = some false
  k_UndefinedName_InvalidText : PySem.W.kitOne K (.ref e_UndefinedName.C) (.ref e_InvalidText.C) = some false
  k_UndefinedName_UndefinedName : PySem.W.kitOne K (.ref e_UndefinedName.C) (.ref e_UndefinedName.C) = some true
  k_UndefinedName_CyclicDefinition : PySem.W.kitOne K (.ref e_UndefinedName.C) (.ref e_CyclicDefinition.C) = some false
  k_CyclicDefinition_InvalidAlphabet : PySem.W.kitOne K (.ref e_CyclicDefinition.C) (.ref e_InvalidAlphabet.C) = some false
  k_CyclicDefinition_AlphabetMismatch : PySem.W.kitOne K (.ref e_CyclicDefinition.C) (.ref e_AlphabetMismatch.C) = some false
  k_CyclicDefinition_InvalidDefinition : PySem.W.kitOne K (.ref e_CyclicDefinition.C) (.ref e_InvalidDefinition.C) = some false
  k_CyclicDefinition_NothingToUndo : PySem.W.kitOne K (.ref e_CyclicDefinition.C) (.ref e_NothingToUndo.C) = some false
  k_CyclicDefinition_NothingToRedo : PySem.W.kitOne K (.ref e_CyclicDefinition.C) (.ref e_NothingToRedo.C) = some false
  k_CyclicDefinition_InvalidProduct : PySem.W.kitOne K (.ref e_CyclicDefinition.C) (.ref e_InvalidProduct.C) = some false
  k_CyclicDefinition_InvalidExpression : PySem.W.kitOne K (.ref e_CyclicDefinition.C) (.ref e_InvalidExpression.C) = some false
  k_CyclicDefinition_InvalidProduction : PySem.W.kitOne K (.ref e_CyclicDefinition.C) (.ref e_InvalidProduction.C) = some false
  k_CyclicDefinition_TooLarge : PySem.W.kitOne K (.ref e_CyclicDefinition.C) (.ref e_TooLarge.C) = some false
  k_CyclicDefinition_TooMany : PySem.W.kitOne K (.ref e_CyclicDefinition.C) (.ref e_TooMany.C) = some false
  k_CyclicDefinition_NoSuchWord : PySem.W.kitOne K (.ref e_CyclicDefinition.C) (.ref e_NoSuchWord.C) = some false
  k_CyclicDefinition_UnknownSymbol : PySem.W.kitOne K (.ref e_CyclicDefinition.C) (.ref e_UnknownSymbol.C) = some false
  k_CyclicDefinition_InvalidText : PySem.W.kitOne K (.ref e_CyclicDefinition.C) (.ref e_InvalidText.C) = some false
  k_CyclicDefinition_UndefinedName : PySem.W.kitOne K (.ref e_CyclicDefinition.C) (.ref e_UndefinedName.C) = some false
  k_CyclicDefinition_CyclicDefinition : PySem.W.kitOne K (.ref e_CyclicDefinition.C) (.ref e_CyclicDefinition.C) = some true
  k_InvalidAlphabet_DownwordsError : PySem.W.kitOne K (.ref e_InvalidAlphabet.C) (.ref e_DownwordsError.C) = some true
  k_AlphabetMismatch_DownwordsError : PySem.W.kitOne K (.ref e_AlphabetMismatch.C) (.ref e_DownwordsError.C) = some true
  k_InvalidDefinition_DownwordsError : PySem.W.kitOne K (.ref e_InvalidDefinition.C) (.ref e_DownwordsError.C) = some true
  k_NothingToUndo_DownwordsError : PySem.W.kitOne K (.ref e_NothingToUndo.C) (.ref e_DownwordsError.C) = some true
  k_NothingToRedo_DownwordsError : PySem.W.kitOne K (.ref e_NothingToRedo.C) (.ref e_DownwordsError.C) = some true
  k_InvalidProduct_DownwordsError : PySem.W.kitOne K (.ref e_InvalidProduct.C) (.ref e_DownwordsError.C) = some true
  k_InvalidExpression_DownwordsError : PySem.W.kitOne K (.ref e_InvalidExpression.C) (.ref e_DownwordsError.C) = some true
  k_InvalidProduction_DownwordsError : PySem.W.kitOne K (.ref e_InvalidProduction.C) (.ref e_DownwordsError.C) = some true
  k_TooLarge_DownwordsError : PySem.W.kitOne K (.ref e_TooLarge.C) (.ref e_DownwordsError.C) = some true
  k_TooMany_DownwordsError : PySem.W.kitOne K (.ref e_TooMany.C) (.ref e_DownwordsError.C) = some true
  k_NoSuchWord_DownwordsError : PySem.W.kitOne K (.ref e_NoSuchWord.C) (.ref e_DownwordsError.C) = some true
  k_UnknownSymbol_DownwordsError : PySem.W.kitOne K (.ref e_UnknownSymbol.C) (.ref e_DownwordsError.C) = some true
  k_InvalidText_DownwordsError : PySem.W.kitOne K (.ref e_InvalidText.C) (.ref e_DownwordsError.C) = some true
  k_UndefinedName_DownwordsError : PySem.W.kitOne K (.ref e_UndefinedName.C) (.ref e_DownwordsError.C) = some true
  k_CyclicDefinition_DownwordsError : PySem.W.kitOne K (.ref e_CyclicDefinition.C) (.ref e_DownwordsError.C) = some true
/-- the classes, in the law's order -/
def cs (S : Ds P K mg) : List Addr := [S.e_InvalidAlphabet.C, S.e_AlphabetMismatch.C, S.e_InvalidDefinition.C, S.e_NothingToUndo.C, S.e_NothingToRedo.C, S.e_InvalidProduct.C, S.e_InvalidExpression.C, S.e_InvalidProduction.C, S.e_TooLarge.C, S.e_TooMany.C, S.e_NoSuchWord.C, S.e_UnknownSymbol.C, S.e_InvalidText.C, S.e_UndefinedName.C, S.e_CyclicDefinition.C]
theorem kit_0 (S : Ds P K mg) : ∀ (j : Nat) (b : Addr), (cs S)[j]? = some b → PySem.W.kitOne K (.ref S.e_InvalidAlphabet.C) (.ref b) = some (decide (0 = j))
  | 0, _, rfl => S.k_InvalidAlphabet_InvalidAlphabet
  | 1, _, rfl => S.k_InvalidAlphabet_AlphabetMismatch
  | 2, _, rfl => S.k_InvalidAlphabet_InvalidDefinition
  | 3, _, rfl => S.k_InvalidAlphabet_NothingToUndo
  | 4, _, rfl => S.k_InvalidAlphabet_NothingToRedo
  | 5, _, rfl => S.k_InvalidAlphabet_InvalidProduct
  | 6, _, rfl => S.k_InvalidAlphabet_InvalidExpression
  | 7, _, rfl => S.k_InvalidAlphabet_InvalidProduction
  | 8, _, rfl => S.k_InvalidAlphabet_TooLarge
  | 9, _, rfl => S.k_InvalidAlphabet_TooMany
  | 10, _, rfl => S.k_InvalidAlphabet_NoSuchWord
  | 11, _, rfl => S.k_InvalidAlphabet_UnknownSymbol
  | 12, _, rfl => S.k_InvalidAlphabet_InvalidText
  | 13, _, rfl => S.k_InvalidAlphabet_UndefinedName
  | 14, _, rfl => S.k_InvalidAlphabet_CyclicDefinition
  | _ + 15, _, h => nomatch h
theorem kit_1 (S : Ds P K mg) : ∀ (j : Nat) (b : Addr), (cs S)[j]? = some b → PySem.W.kitOne K (.ref S.e_AlphabetMismatch.C) (.ref b) = some (decide (1 = j))
  | 0, _, rfl => S.k_AlphabetMismatch_InvalidAlphabet
  | 1, _, rfl => S.k_AlphabetMismatch_AlphabetMismatch
  | 2, _, rfl => S.k_AlphabetMismatch_InvalidDefinition
  | 3, _, rfl => S.k_AlphabetMismatch_NothingToUndo
  | 4, _, rfl => S.k_AlphabetMismatch_NothingToRedo
  | 5, _, rfl => S.k_AlphabetMismatch_InvalidProduct
  | 6, _, rfl => S.k_AlphabetMismatch_InvalidExpression
  | 7, _, rfl => S.k_AlphabetMismatch_InvalidProduction
  | 8, _, rfl => S.k_AlphabetMismatch_TooLarge
  | 9, _, rfl => S.k_AlphabetMismatch_TooMany
  | 10, _, rfl => S.k_AlphabetMismatch_NoSuchWord
  | 11, _, rfl => S.k_AlphabetMismatch_UnknownSymbol
  | 12, _, rfl => S.k_AlphabetMismatch_InvalidText
  | 13, _, rfl => S.k_AlphabetMismatch_UndefinedName
  | 14, _, rfl => S.k_AlphabetMismatch_CyclicDefinition
  | _ + 15, _, h => nomatch h
theorem kit_2 (S : Ds P K mg) : ∀ (j : Nat) (b : Addr), (cs S)[j]? = some b → PySem.W.kitOne K (.ref S.e_InvalidDefinition.C) (.ref b) = some (decide (2 = j))
  | 0, _, rfl => S.k_InvalidDefinition_InvalidAlphabet
  | 1, _, rfl => S.k_InvalidDefinition_AlphabetMismatch
  | 2, _, rfl => S.k_InvalidDefinition_InvalidDefinition
  | 3, _, rfl => S.k_InvalidDefinition_NothingToUndo
  | 4, _, rfl => S.k_InvalidDefinition_NothingToRedo
  | 5, _, rfl => S.k_InvalidDefinition_InvalidProduct
  | 6, _, rfl => S.k_InvalidDefinition_InvalidExpression
  | 7, _, rfl => S.k_InvalidDefinition_InvalidProduction
  | 8, _, rfl => S.k_InvalidDefinition_TooLarge
  | 9, _, rfl => S.k_InvalidDefinition_TooMany
  | 10, _, rfl => S.k_InvalidDefinition_NoSuchWord
  | 11, _, rfl => S.k_InvalidDefinition_UnknownSymbol
  | 12, _, rfl => S.k_InvalidDefinition_InvalidText
  | 13, _, rfl => S.k_InvalidDefinition_UndefinedName
  | 14, _, rfl => S.k_InvalidDefinition_CyclicDefinition
  | _ + 15, _, h => nomatch h
theorem kit_3 (S : Ds P K mg) : ∀ (j : Nat) (b : Addr), (cs S)[j]? = some b → PySem.W.kitOne K (.ref S.e_NothingToUndo.C) (.ref b) = some (decide (3 = j))
  | 0, _, rfl => S.k_NothingToUndo_InvalidAlphabet
  | 1, _, rfl => S.k_NothingToUndo_AlphabetMismatch
  | 2, _, rfl => S.k_NothingToUndo_InvalidDefinition
  | 3, _, rfl => S.k_NothingToUndo_NothingToUndo
  | 4, _, rfl => S.k_NothingToUndo_NothingToRedo
  | 5, _, rfl => S.k_NothingToUndo_InvalidProduct
  | 6, _, rfl => S.k_NothingToUndo_InvalidExpression
  | 7, _, rfl => S.k_NothingToUndo_InvalidProduction
  | 8, _, rfl => S.k_NothingToUndo_TooLarge
  | 9, _, rfl => S.k_NothingToUndo_TooMany
  | 10, _, rfl => S.k_NothingToUndo_NoSuchWord
  | 11, _, rfl => S.k_NothingToUndo_UnknownSymbol
  | 12, _, rfl => S.k_NothingToUndo_InvalidText
  | 13, _, rfl => S.k_NothingToUndo_UndefinedName
  | 14, _, rfl => S.k_NothingToUndo_CyclicDefinition
  | _ + 15, _, h => nomatch h
theorem kit_4 (S : Ds P K mg) : ∀ (j : Nat) (b : Addr), (cs S)[j]? = some b → PySem.W.kitOne K (.ref S.e_NothingToRedo.C) (.ref b) = some (decide (4 = j))
  | 0, _, rfl => S.k_NothingToRedo_InvalidAlphabet
  | 1, _, rfl => S.k_NothingToRedo_AlphabetMismatch
  | 2, _, rfl => S.k_NothingToRedo_InvalidDefinition
  | 3, _, rfl => S.k_NothingToRedo_NothingToUndo
  | 4, _, rfl => S.k_NothingToRedo_NothingToRedo
  | 5, _, rfl => S.k_NothingToRedo_InvalidProduct
  | 6, _, rfl => S.k_NothingToRedo_InvalidExpression
  | 7, _, rfl => S.k_NothingToRedo_InvalidProduction
  | 8, _, rfl => S.k_NothingToRedo_TooLarge
  | 9, _, rfl => S.k_NothingToRedo_TooMany
  | 10, _, rfl => S.k_NothingToRedo_NoSuchWord
  | 11, _, rfl => S.k_NothingToRedo_UnknownSymbol
  | 12, _, rfl => S.k_NothingToRedo_InvalidText
  | 13, _, rfl => S.k_NothingToRedo_UndefinedName
  | 14, _, rfl => S.k_NothingToRedo_CyclicDefinition
  | _ + 15, _, h => nomatch h
theorem kit_5 (S : Ds P K mg) : ∀ (j : Nat) (b : Addr), (cs S)[j]? = some b → PySem.W.kitOne K (.ref S.e_InvalidProduct.C) (.ref b) = some (decide (5 = j))
  | 0, _, rfl => S.k_InvalidProduct_InvalidAlphabet
  | 1, _, rfl => S.k_InvalidProduct_AlphabetMismatch
  | 2, _, rfl => S.k_InvalidProduct_InvalidDefinition
  | 3, _, rfl => S.k_InvalidProduct_NothingToUndo
  | 4, _, rfl => S.k_InvalidProduct_NothingToRedo
  | 5, _, rfl => S.k_InvalidProduct_InvalidProduct
  | 6, _, rfl => S.k_InvalidProduct_InvalidExpression
  | 7, _, rfl => S.k_InvalidProduct_InvalidProduction
  | 8, _, rfl => S.k_InvalidProduct_TooLarge
  | 9, _, rfl => S.k_InvalidProduct_TooMany
  | 10, _, rfl => S.k_InvalidProduct_NoSuchWord
  | 11, _, rfl => S.k_InvalidProduct_UnknownSymbol
  | 12, _, rfl => S.k_InvalidProduct_InvalidText
  | 13, _, rfl => S.k_InvalidProduct_UndefinedName
  | 14, _, rfl => S.k_InvalidProduct_CyclicDefinition
  | _ + 15, _, h => nomatch h
theorem kit_6 (S : Ds P K mg) : ∀ (j : Nat) (b : Addr), (cs S)[j]? = some b → PySem.W.kitOne K (.ref S.e_InvalidExpression.C) (.ref b) = some (decide (6 = j))
  | 0, _, rfl => S.k_InvalidExpression_InvalidAlphabet
  | 1, _, rfl => S.k_InvalidExpression_AlphabetMismatch
  | 2, _, rfl => S.k_InvalidExpression_InvalidDefinition
  | 3, _, rfl => S.k_InvalidExpression_NothingToUndo
  | 4, _, rfl => S.k_InvalidExpression_NothingToRedo
  | 5, _, rfl => S.k_InvalidExpression_InvalidProduct
  | 6, _, rfl => S.k_InvalidExpression_InvalidExpression
  | 7, _, rfl => S.k_InvalidExpression_InvalidProduction
  | 8, _, rfl => S.k_InvalidExpression_TooLarge
  | 9, _, rfl => S.k_InvalidExpression_TooMany
  | 10, _, rfl => S.k_InvalidExpression_NoSuchWord
  | 11, _, rfl => S.k_InvalidExpression_UnknownSymbol
  | 12, _, rfl => S.k_InvalidExpression_InvalidText
  | 13, _, rfl => S.k_InvalidExpression_UndefinedName
  | 14, _, rfl => S.k_InvalidExpression_CyclicDefinition
  | _ + 15, _, h => nomatch h
theorem kit_7 (S : Ds P K mg) : ∀ (j : Nat) (b : Addr), (cs S)[j]? = some b → PySem.W.kitOne K (.ref S.e_InvalidProduction.C) (.ref b) = some (decide (7 = j))
  | 0, _, rfl => S.k_InvalidProduction_InvalidAlphabet
  | 1, _, rfl => S.k_InvalidProduction_AlphabetMismatch
  | 2, _, rfl => S.k_InvalidProduction_InvalidDefinition
  | 3, _, rfl => S.k_InvalidProduction_NothingToUndo
  | 4, _, rfl => S.k_InvalidProduction_NothingToRedo
  | 5, _, rfl => S.k_InvalidProduction_InvalidProduct
  | 6, _, rfl => S.k_InvalidProduction_InvalidExpression
  | 7, _, rfl => S.k_InvalidProduction_InvalidProduction
  | 8, _, rfl => S.k_InvalidProduction_TooLarge
  | 9, _, rfl => S.k_InvalidProduction_TooMany
  | 10, _, rfl => S.k_InvalidProduction_NoSuchWord
  | 11, _, rfl => S.k_InvalidProduction_UnknownSymbol
  | 12, _, rfl => S.k_InvalidProduction_InvalidText
  | 13, _, rfl => S.k_InvalidProduction_UndefinedName
  | 14, _, rfl => S.k_InvalidProduction_CyclicDefinition
  | _ + 15, _, h => nomatch h
theorem kit_8 (S : Ds P K mg) : ∀ (j : Nat) (b : Addr), (cs S)[j]? = some b → PySem.W.kitOne K (.ref S.e_TooLarge.C) (.ref b) = some (decide (8 = j))
  | 0, _, rfl => S.k_TooLarge_InvalidAlphabet
  | 1, _, rfl => S.k_TooLarge_AlphabetMismatch
  | 2, _, rfl => S.k_TooLarge_InvalidDefinition
  | 3, _, rfl => S.k_TooLarge_NothingToUndo
  | 4, _, rfl => S.k_TooLarge_NothingToRedo
  | 5, _, rfl => S.k_TooLarge_InvalidProduct
  | 6, _, rfl => S.k_TooLarge_InvalidExpression
  | 7, _, rfl => S.k_TooLarge_InvalidProduction
  | 8, _, rfl => S.k_TooLarge_TooLarge
  | 9, _, rfl => S.k_TooLarge_TooMany
  | 10, _, rfl => S.k_TooLarge_NoSuchWord
  | 11, _, rfl => S.k_TooLarge_UnknownSymbol
  | 12, _, rfl => S.k_TooLarge_InvalidText
  | 13, _, rfl => S.k_TooLarge_UndefinedName
  | 14, _, rfl => S.k_TooLarge_CyclicDefinition
  | _ + 15, _, h => nomatch h
theorem kit_9 (S : Ds P K mg) : ∀ (j : Nat) (b : Addr), (cs S)[j]? = some b → PySem.W.kitOne K (.ref S.e_TooMany.C) (.ref b) = some (decide (9 = j))
  | 0, _, rfl => S.k_TooMany_InvalidAlphabet
  | 1, _, rfl => S.k_TooMany_AlphabetMismatch
  | 2, _, rfl => S.k_TooMany_InvalidDefinition
  | 3, _, rfl => S.k_TooMany_NothingToUndo
  | 4, _, rfl => S.k_TooMany_NothingToRedo
  | 5, _, rfl => S.k_TooMany_InvalidProduct
  | 6, _, rfl => S.k_TooMany_InvalidExpression
  | 7, _, rfl => S.k_TooMany_InvalidProduction
  | 8, _, rfl => S.k_TooMany_TooLarge
  | 9, _, rfl => S.k_TooMany_TooMany
  | 10, _, rfl => S.k_TooMany_NoSuchWord
  | 11, _, rfl => S.k_TooMany_UnknownSymbol
  | 12, _, rfl => S.k_TooMany_InvalidText
  | 13, _, rfl => S.k_TooMany_UndefinedName
  | 14, _, rfl => S.k_TooMany_CyclicDefinition
  | _ + 15, _, h => nomatch h
theorem kit_10 (S : Ds P K mg) : ∀ (j : Nat) (b : Addr), (cs S)[j]? = some b → PySem.W.kitOne K (.ref S.e_NoSuchWord.C) (.ref b) = some (decide (10 = j))
  | 0, _, rfl => S.k_NoSuchWord_InvalidAlphabet
  | 1, _, rfl => S.k_NoSuchWord_AlphabetMismatch
  | 2, _, rfl => S.k_NoSuchWord_InvalidDefinition
  | 3, _, rfl => S.k_NoSuchWord_NothingToUndo
  | 4, _, rfl => S.k_NoSuchWord_NothingToRedo
  | 5, _, rfl => S.k_NoSuchWord_InvalidProduct
  | 6, _, rfl => S.k_NoSuchWord_InvalidExpression
  | 7, _, rfl => S.k_NoSuchWord_InvalidProduction
  | 8, _, rfl => S.k_NoSuchWord_TooLarge
  | 9, _, rfl => S.k_NoSuchWord_TooMany
  | 10, _, rfl => S.k_NoSuchWord_NoSuchWord
  | 11, _, rfl => S.k_NoSuchWord_UnknownSymbol
  | 12, _, rfl => S.k_NoSuchWord_InvalidText
  | 13, _, rfl => S.k_NoSuchWord_UndefinedName
  | 14, _, rfl => S.k_NoSuchWord_CyclicDefinition
  | _ + 15, _, h => nomatch h
theorem kit_11 (S : Ds P K mg) : ∀ (j : Nat) (b : Addr), (cs S)[j]? = some b → PySem.W.kitOne K (.ref S.e_UnknownSymbol.C) (.ref b) = some (decide (11 = j))
  | 0, _, rfl => S.k_UnknownSymbol_InvalidAlphabet
  | 1, _, rfl => S.k_UnknownSymbol_AlphabetMismatch
  | 2, _, rfl => S.k_UnknownSymbol_InvalidDefinition
  | 3, _, rfl => S.k_UnknownSymbol_NothingToUndo
  | 4, _, rfl => S.k_UnknownSymbol_NothingToRedo
  | 5, _, rfl => S.k_UnknownSymbol_InvalidProduct
  | 6, _, rfl => S.k_UnknownSymbol_InvalidExpression
  | 7, _, rfl => S.k_UnknownSymbol_InvalidProduction
  | 8, _, rfl => S.k_UnknownSymbol_TooLarge
  | 9, _, rfl => S.k_UnknownSymbol_TooMany
  | 10, _, rfl => S.k_UnknownSymbol_NoSuchWord
  | 11, _, rfl => S.k_UnknownSymbol_UnknownSymbol
  | 12, _, rfl => S.k_UnknownSymbol_InvalidText
  | 13, _, rfl => S.k_UnknownSymbol_UndefinedName
  | 14, _, rfl => S.k_UnknownSymbol_CyclicDefinition
  | _ + 15, _, h => nomatch h
theorem kit_12 (S : Ds P K mg) : ∀ (j : Nat) (b : Addr), (cs S)[j]? = some b → PySem.W.kitOne K (.ref S.e_InvalidText.C) (.ref b) = some (decide (12 = j))
  | 0, _, rfl => S.k_InvalidText_InvalidAlphabet
  | 1, _, rfl => S.k_InvalidText_AlphabetMismatch
  | 2, _, rfl => S.k_InvalidText_InvalidDefinition
  | 3, _, rfl => S.k_InvalidText_NothingToUndo
  | 4, _, rfl => S.k_InvalidText_NothingToRedo
  | 5, _, rfl => S.k_InvalidText_InvalidProduct
  | 6, _, rfl => S.k_InvalidText_InvalidExpression
  | 7, _, rfl => S.k_InvalidText_InvalidProduction
  | 8, _, rfl => S.k_InvalidText_TooLarge
  | 9, _, rfl => S.k_InvalidText_TooMany
  | 10, _, rfl => S.k_InvalidText_NoSuchWord
  | 11, _, rfl => S.k_InvalidText_UnknownSymbol
  | 12, _, rfl => S.k_InvalidText_InvalidText
  | 13, _, rfl => S.k_InvalidText_UndefinedName
  | 14, _, rfl => S.k_InvalidText_CyclicDefinition
  | _ + 15, _, h => nomatch h
theorem kit_13 (S : Ds P K mg) : ∀ (j : Nat) (b : Addr), (cs S)[j]? = some b → PySem.W.kitOne K (.ref S.e_UndefinedName.C) (.ref b) = some (decide (13 = j))
  | 0, _, rfl => S.k_UndefinedName_InvalidAlphabet
  | 1, _, rfl => S.k_UndefinedName_AlphabetMismatch
  | 2, _, rfl => S.k_UndefinedName_InvalidDefinition
  | 3, _, rfl => S.k_UndefinedName_NothingToUndo
  | 4, _, rfl => S.k_UndefinedName_NothingToRedo
  | 5, _, rfl => S.k_UndefinedName_InvalidProduct
  | 6, _, rfl => S.k_UndefinedName_InvalidExpression
  | 7, _, rfl => S.k_UndefinedName_InvalidProduction
  | 8, _, rfl => S.k_UndefinedName_TooLarge
  | 9, _, rfl => S.k_UndefinedName_TooMany
  | 10, _, rfl => S.k_UndefinedName_NoSuchWord
  | 11, _, rfl => S.k_UndefinedName_UnknownSymbol
  | 12, _, rfl => S.k_UndefinedName_InvalidText
  | 13, _, rfl => S.k_UndefinedName_UndefinedName
  | 14, _, rfl => S.k_UndefinedName_CyclicDefinition
  | _ + 15, _, h => nomatch h
theorem kit_14 (S : Ds P K mg) : ∀ (j : Nat) (b : Addr), (cs S)[j]? = some b → PySem.W.kitOne K (.ref S.e_CyclicDefinition.C) (.ref b) = some (decide (14 = j))
  | 0, _, rfl => S.k_CyclicDefinition_InvalidAlphabet
  | 1, _, rfl => S.k_CyclicDefinition_AlphabetMismatch
  | 2, _, rfl => S.k_CyclicDefinition_InvalidDefinition
  | 3, _, rfl => S.k_CyclicDefinition_NothingToUndo
  | 4, _, rfl => S.k_CyclicDefinition_NothingToRedo
  | 5, _, rfl => S.k_CyclicDefinition_InvalidProduct
  | 6, _, rfl => S.k_CyclicDefinition_InvalidExpression
  | 7, _, rfl => S.k_CyclicDefinition_InvalidProduction
  | 8, _, rfl => S.k_CyclicDefinition_TooLarge
  | 9, _, rfl => S.k_CyclicDefinition_TooMany
  | 10, _, rfl => S.k_CyclicDefinition_NoSuchWord
  | 11, _, rfl => S.k_CyclicDefinition_UnknownSymbol
  | 12, _, rfl => S.k_CyclicDefinition_InvalidText
  | 13, _, rfl => S.k_CyclicDefinition_UndefinedName
  | 14, _, rfl => S.k_CyclicDefinition_CyclicDefinition
  | _ + 15, _, h => nomatch h
theorem okL : ∀ (ds : List PyData), (∀ d ∈ ds, PyData.canLay0 d = true ∧ d.depth = 0) → PyData.canLayAll0 ds = true ∧ PyData.depthAll ds = 0
  | [], _ => ⟨rfl, rfl⟩
  | d :: r, h => by
    obtain ⟨h1, h2⟩ := okL r fun q hq => h q (List.mem_cons_of_mem _ hq)
    obtain ⟨c1, c2⟩ := h d List.mem_cons_self
    exact ⟨by simp only [PyData.canLayAll0, c1, h1, Bool.and_self], by simp only [PyData.depthAll, c2, h2]; rfl⟩
theorem lst_shaped {ds : List PyData} (h : ∀ d ∈ ds, PyData.canLay0 d = true ∧ d.depth = 0) : SeqAt.shaped (.list ds) = true := by
  obtain ⟨h1, h2⟩ := okL ds h
  unfold SeqAt.shaped
  rw [Bool.and_eq_true]
  exact ⟨by simp only [PyData.canLay0, h1], decide_eq_true (by simp only [PyData.depth, h2]; omega)⟩
theorem lst_eqv {ds : List PyData} (h : ∀ d ∈ ds, PyData.canLay0 d = true ∧ d.depth = 0) : PyData.eqv (.list ds) (.list ds) = true := by
  obtain ⟨h1, _⟩ := okL ds h
  exact PySem.SeqAt.eqv_refl _ (by simp only [PyData.canLay0, h1])
theorem int_okD (i : Int) : PyData.canLay0 (.int i) = true ∧ (PyData.int i).depth = 0 := ⟨rfl, rfl⟩
theorem rep_ok {d : PyData} {n : Nat} (h : PyData.canLay0 d = true ∧ d.depth = 0) : ∀ x ∈ List.replicate n d, PyData.canLay0 x = true ∧ x.depth = 0 := fun x hx => by rw [(List.mem_replicate.mp hx).2]; exact h
def spKinds (S : Ds P K mg) : Sp := fun vs H Q _ => ∃ (a C : Addr) (d : Option Addr) (b : Nat → Bool), vs = [.ref a] ∧ H a = some (EK.Kep a (.ref C) d) ∧ EX.ErrC K C ∧ (∀ dd, d = some dd → ∃ fs, H dd = some (.xd fs)) ∧ (∀ j c, (cs S)[j]? = some c → PySem.W.kitOne K (.ref C) (.ref c) = some (b j)) ∧
  ∀ H' l, Same H H' → H' l = some (.lst ((List.range 15).map fun j => V.bl (b j))) → Q (.ref l) H'
theorem scKinds : FnScope ["_law_e", "_law_found"] ["_law_e"] (defScope sLKinds) := ⟨rfl, rfl, rfl, by decide +kernel, rfl, by decide +kernel, by decide +kernel⟩
theorem ok_kinds (S : Ds P K mg) : FnOk P w K mg base CX0 1 S.kinds.f S.kinds.fd ["_law_e"] (spKinds S) := by
  refine S.kinds.F.ok scKinds (fun vs H Q E h => ?_) (fun cdv A outer s H vs Q E hr h => ?_)
  · obtain ⟨a, C, d, b, rfl, _⟩ := h
    rfl
  · obtain ⟨a, C, d, b, rfl, ha, T, hd, kt, k⟩ := h
    refine ⟨_, PSs.nox (pss_cons (ps_set (i := 1) scKinds.nd rfl (.inl rfl) (pe_lst (pa_cons (pe_callB EK.call_isK (by rfl) S.b_isinstance (by decide +kernel) (pa_cons (pv 0) (pa_cons (pe_glob (v := V.ref S.e_InvalidAlphabet.C) (by rfl) S.e_InvalidAlphabet.g rfl) pa_nil))) (pa_cons (pe_callB EK.call_isK (by rfl) S.b_isinstance (by decide +kernel) (pa_cons (pv 0) (pa_cons (pe_glob (v := V.ref S.e_AlphabetMismatch.C) (by rfl) S.e_AlphabetMismatch.g rfl) pa_nil))) (pa_cons (pe_callB EK.call_isK (by rfl) S.b_isinstance (by decide +kernel) (pa_cons (pv 0) (pa_cons (pe_glob (v := V.ref S.e_InvalidDefinition.C) (by rfl) S.e_InvalidDefinition.g rfl) pa_nil))) pa_nil))))) (pss_cons (ps_set (i := 1) scKinds.nd rfl (.inl rfl) (pe_op op_cat (pv 1) (pe_lst (pa_cons (pe_callB EK.call_isK (by rfl) S.b_isinstance (by decide +kernel) (pa_cons (pv 0) (pa_cons (pe_glob (v := V.ref S.e_NothingToUndo.C) (by rfl) S.e_NothingToUndo.g rfl) pa_nil))) (pa_cons (pe_callB EK.call_isK (by rfl) S.b_isinstance (by decide +kernel) (pa_cons (pv 0) (pa_cons (pe_glob (v := V.ref S.e_NothingToRedo.C) (by rfl) S.e_NothingToRedo.g rfl) pa_nil))) (pa_cons (pe_callB EK.call_isK (by rfl) S.b_isinstance (by decide +kernel) (pa_cons (pv 0) (pa_cons (pe_glob (v := V.ref S.e_InvalidProduct.C) (by rfl) S.e_InvalidProduct.g rfl) pa_nil))) pa_nil)))))) (pss_cons (ps_set (i := 1) scKinds.nd rfl (.inl rfl) (pe_op op_cat (pv 1) (pe_lst (pa_cons (pe_callB EK.call_isK (by rfl) S.b_isinstance (by decide +kernel) (pa_cons (pv 0) (pa_cons (pe_glob (v := V.ref S.e_InvalidExpression.C) (by rfl) S.e_InvalidExpression.g rfl) pa_nil))) (pa_cons (pe_callB EK.call_isK (by rfl) S.b_isinstance (by decide +kernel) (pa_cons (pv 0) (pa_cons (pe_glob (v := V.ref S.e_InvalidProduction.C) (by rfl) S.e_InvalidProduction.g rfl) pa_nil))) (pa_cons (pe_callB EK.call_isK (by rfl) S.b_isinstance (by decide +kernel) (pa_cons (pv 0) (pa_cons (pe_glob (v := V.ref S.e_TooLarge.C) (by rfl) S.e_TooLarge.g rfl) pa_nil))) pa_nil)))))) (pss_cons (ps_set (i := 1) scKinds.nd rfl (.inl rfl) (pe_op op_cat (pv 1) (pe_lst (pa_cons (pe_callB EK.call_isK (by rfl) S.b_isinstance (by decide +kernel) (pa_cons (pv 0) (pa_cons (pe_glob (v := V.ref S.e_TooMany.C) (by rfl) S.e_TooMany.g rfl) pa_nil))) (pa_cons (pe_callB EK.call_isK (by rfl) S.b_isinstance (by decide +kernel) (pa_cons (pv 0) (pa_cons (pe_glob (v := V.ref S.e_NoSuchWord.C) (by rfl) S.e_NoSuchWord.g rfl) pa_nil))) (pa_cons (pe_callB EK.call_isK (by rfl) S.b_isinstance (by decide +kernel) (pa_cons (pv 0) (pa_cons (pe_glob (v := V.ref S.e_UnknownSymbol.C) (by rfl) S.e_UnknownSymbol.g rfl) pa_nil))) pa_nil)))))) (pss_one (ps_ret (pe_op op_cat (pv 1) (pe_lst (pa_cons (pe_callB EK.call_isK (by rfl) S.b_isinstance (by decide +kernel) (pa_cons (pv 0) (pa_cons (pe_glob (v := V.ref S.e_InvalidText.C) (by rfl) S.e_InvalidText.g rfl) pa_nil))) (pa_cons (pe_callB EK.call_isK (by rfl) S.b_isinstance (by decide +kernel) (pa_cons (pv 0) (pa_cons (pe_glob (v := V.ref S.e_UndefinedName.C) (by rfl) S.e_UndefinedName.g rfl) pa_nil))) (pa_cons (pe_callB EK.call_isK (by rfl) S.b_isinstance (by decide +kernel) (pa_cons (pv 0) (pa_cons (pe_glob (v := V.ref S.e_CyclicDefinition.C) (by rfl) S.e_CyclicDefinition.g rfl) pa_nil))) pa_nil))))))))))), ?_⟩
    refine ⟨.ref a, rfl, a, C, d, .ref S.e_InvalidAlphabet.C, .ref S.e_InvalidAlphabet.C, b 0, rfl, ha, T, hd, (fun u h => h), kt 0 _ rfl, .ref a, rfl, a, C, d, .ref S.e_AlphabetMismatch.C, .ref S.e_AlphabetMismatch.C, b 1, rfl, ha, T, hd, (fun u h => h), kt 1 _ rfl, .ref a, rfl, a, C, d, .ref S.e_InvalidDefinition.C, .ref S.e_InvalidDefinition.C, b 2, rfl, ha, T, hd, (fun u h => h), kt 2 _ rfl, by show 3 ≤ sizeLine; decide, fun l0 n0 => ?_⟩
    have s0 := same_upd (o := .lst [V.bl (b 0), V.bl (b 1), V.bl (b 2)]) n0
    have g0 : (upd H l0 (.lst [V.bl (b 0), V.bl (b 1), V.bl (b 2)])) l0 = some (.lst [V.bl (b 0), V.bl (b 1), V.bl (b 2)]) := upd_same
    generalize upd H l0 (.lst [V.bl (b 0), V.bl (b 1), V.bl (b 2)]) = H0 at s0 g0 ⊢
    have hd0 : ∀ dd, d = some dd → ∃ fs, H0 dd = some (.xd fs) := fun dd e => by obtain ⟨fs, q⟩ := hd dd e; exact ⟨fs, s0 _ _ q⟩
    refine ⟨.ref l0, rfl, .ref a, rfl, a, C, d, .ref S.e_NothingToUndo.C, .ref S.e_NothingToUndo.C, b 3, rfl, (s0 _ _ ha), T, hd0, (fun u h => h), kt 3 _ rfl, .ref a, rfl, a, C, d, .ref S.e_NothingToRedo.C, .ref S.e_NothingToRedo.C, b 4, rfl, (s0 _ _ ha), T, hd0, (fun u h => h), kt 4 _ rfl, .ref a, rfl, a, C, d, .ref S.e_InvalidProduct.C, .ref S.e_InvalidProduct.C, b 5, rfl, (s0 _ _ ha), T, hd0, (fun u h => h), kt 5 _ rfl, by show 3 ≤ sizeLine; decide, fun p1 m1 => ?_⟩
    have v1 := same_upd (o := .lst [V.bl (b 3), V.bl (b 4), V.bl (b 5)]) m1
    have y1 : (upd H0 p1 (.lst [V.bl (b 3), V.bl (b 4), V.bl (b 5)])) p1 = some (.lst [V.bl (b 3), V.bl (b 4), V.bl (b 5)]) := upd_same
    generalize upd H0 p1 (.lst [V.bl (b 3), V.bl (b 4), V.bl (b 5)]) = I1 at v1 y1 ⊢
    refine ⟨l0, p1, [V.bl (b 0), V.bl (b 1), V.bl (b 2)], [V.bl (b 3), V.bl (b 4), V.bl (b 5)], rfl, rfl, v1 _ _ g0, y1, by show 6 ≤ sizeLine; decide, fun l1 n1 => ?_⟩
    have z1 := same_upd (o := .lst ([V.bl (b 0), V.bl (b 1), V.bl (b 2)] ++ [V.bl (b 3), V.bl (b 4), V.bl (b 5)])) n1
    have g1 : (upd I1 l1 (.lst ([V.bl (b 0), V.bl (b 1), V.bl (b 2)] ++ [V.bl (b 3), V.bl (b 4), V.bl (b 5)]))) l1 = some (.lst [V.bl (b 0), V.bl (b 1), V.bl (b 2), V.bl (b 3), V.bl (b 4), V.bl (b 5)]) := upd_same
    generalize upd I1 l1 (.lst ([V.bl (b 0), V.bl (b 1), V.bl (b 2)] ++ [V.bl (b 3), V.bl (b 4), V.bl (b 5)])) = H1 at z1 g1 ⊢
    have hd1 : ∀ dd, d = some dd → ∃ fs, H1 dd = some (.xd fs) := fun dd e => by obtain ⟨fs, q⟩ := hd dd e; exact ⟨fs, ((s0.trans v1).trans z1) _ _ q⟩
    refine ⟨.ref l1, rfl, .ref a, rfl, a, C, d, .ref S.e_InvalidExpression.C, .ref S.e_InvalidExpression.C, b 6, rfl, (((s0.trans v1).trans z1) _ _ ha), T, hd1, (fun u h => h), kt 6 _ rfl, .ref a, rfl, a, C, d, .ref S.e_InvalidProduction.C, .ref S.e_InvalidProduction.C, b 7, rfl, (((s0.trans v1).trans z1) _ _ ha), T, hd1, (fun u h => h), kt 7 _ rfl, .ref a, rfl, a, C, d, .ref S.e_TooLarge.C, .ref S.e_TooLarge.C, b 8, rfl, (((s0.trans v1).trans z1) _ _ ha), T, hd1, (fun u h => h), kt 8 _ rfl, by show 3 ≤ sizeLine; decide, fun p2 m2 => ?_⟩
    have v2 := same_upd (o := .lst [V.bl (b 6), V.bl (b 7), V.bl (b 8)]) m2
    have y2 : (upd H1 p2 (.lst [V.bl (b 6), V.bl (b 7), V.bl (b 8)])) p2 = some (.lst [V.bl (b 6), V.bl (b 7), V.bl (b 8)]) := upd_same
    generalize upd H1 p2 (.lst [V.bl (b 6), V.bl (b 7), V.bl (b 8)]) = I2 at v2 y2 ⊢
    refine ⟨l1, p2, [V.bl (b 0), V.bl (b 1), V.bl (b 2), V.bl (b 3), V.bl (b 4), V.bl (b 5)], [V.bl (b 6), V.bl (b 7), V.bl (b 8)], rfl, rfl, v2 _ _ g1, y2, by show 9 ≤ sizeLine; decide, fun l2 n2 => ?_⟩
    have z2 := same_upd (o := .lst ([V.bl (b 0), V.bl (b 1), V.bl (b 2), V.bl (b 3), V.bl (b 4), V.bl (b 5)] ++ [V.bl (b 6), V.bl (b 7), V.bl (b 8)])) n2
    have g2 : (upd I2 l2 (.lst ([V.bl (b 0), V.bl (b 1), V.bl (b 2), V.bl (b 3), V.bl (b 4), V.bl (b 5)] ++ [V.bl (b 6), V.bl (b 7), V.bl (b 8)]))) l2 = some (.lst [V.bl (b 0), V.bl (b 1), V.bl (b 2), V.bl (b 3), V.bl (b 4), V.bl (b 5), V.bl (b 6), V.bl (b 7), V.bl (b 8)]) := upd_same
    generalize upd I2 l2 (.lst ([V.bl (b 0), V.bl (b 1), V.bl (b 2), V.bl (b 3), V.bl (b 4), V.bl (b 5)] ++ [V.bl (b 6), V.bl (b 7), V.bl (b 8)])) = H2 at z2 g2 ⊢
    have hd2 : ∀ dd, d = some dd → ∃ fs, H2 dd = some (.xd fs) := fun dd e => by obtain ⟨fs, q⟩ := hd dd e; exact ⟨fs, ((((s0.trans v1).trans z1).trans v2).trans z2) _ _ q⟩
    refine ⟨.ref l2, rfl, .ref a, rfl, a, C, d, .ref S.e_TooMany.C, .ref S.e_TooMany.C, b 9, rfl, (((((s0.trans v1).trans z1).trans v2).trans z2) _ _ ha), T, hd2, (fun u h => h), kt 9 _ rfl, .ref a, rfl, a, C, d, .ref S.e_NoSuchWord.C, .ref S.e_NoSuchWord.C, b 10, rfl, (((((s0.trans v1).trans z1).trans v2).trans z2) _ _ ha), T, hd2, (fun u h => h), kt 10 _ rfl, .ref a, rfl, a, C, d, .ref S.e_UnknownSymbol.C, .ref S.e_UnknownSymbol.C, b 11, rfl, (((((s0.trans v1).trans z1).trans v2).trans z2) _ _ ha), T, hd2, (fun u h => h), kt 11 _ rfl, by show 3 ≤ sizeLine; decide, fun p3 m3 => ?_⟩
    have v3 := same_upd (o := .lst [V.bl (b 9), V.bl (b 10), V.bl (b 11)]) m3
    have y3 : (upd H2 p3 (.lst [V.bl (b 9), V.bl (b 10), V.bl (b 11)])) p3 = some (.lst [V.bl (b 9), V.bl (b 10), V.bl (b 11)]) := upd_same
    generalize upd H2 p3 (.lst [V.bl (b 9), V.bl (b 10), V.bl (b 11)]) = I3 at v3 y3 ⊢
    refine ⟨l2, p3, [V.bl (b 0), V.bl (b 1), V.bl (b 2), V.bl (b 3), V.bl (b 4), V.bl (b 5), V.bl (b 6), V.bl (b 7), V.bl (b 8)], [V.bl (b 9), V.bl (b 10), V.bl (b 11)], rfl, rfl, v3 _ _ g2, y3, by show 12 ≤ sizeLine; decide, fun l3 n3 => ?_⟩
    have z3 := same_upd (o := .lst ([V.bl (b 0), V.bl (b 1), V.bl (b 2), V.bl (b 3), V.bl (b 4), V.bl (b 5), V.bl (b 6), V.bl (b 7), V.bl (b 8)] ++ [V.bl (b 9), V.bl (b 10), V.bl (b 11)])) n3
    have g3 : (upd I3 l3 (.lst ([V.bl (b 0), V.bl (b 1), V.bl (b 2), V.bl (b 3), V.bl (b 4), V.bl (b 5), V.bl (b 6), V.bl (b 7), V.bl (b 8)] ++ [V.bl (b 9), V.bl (b 10), V.bl (b 11)]))) l3 = some (.lst [V.bl (b 0), V.bl (b 1), V.bl (b 2), V.bl (b 3), V.bl (b 4), V.bl (b 5), V.bl (b 6), V.bl (b 7), V.bl (b 8), V.bl (b 9), V.bl (b 10), V.bl (b 11)]) := upd_same
    generalize upd I3 l3 (.lst ([V.bl (b 0), V.bl (b 1), V.bl (b 2), V.bl (b 3), V.bl (b 4), V.bl (b 5), V.bl (b 6), V.bl (b 7), V.bl (b 8)] ++ [V.bl (b 9), V.bl (b 10), V.bl (b 11)])) = H3 at z3 g3 ⊢
    have hd3 : ∀ dd, d = some dd → ∃ fs, H3 dd = some (.xd fs) := fun dd e => by obtain ⟨fs, q⟩ := hd dd e; exact ⟨fs, ((((((s0.trans v1).trans z1).trans v2).trans z2).trans v3).trans z3) _ _ q⟩
    refine ⟨.ref l3, rfl, .ref a, rfl, a, C, d, .ref S.e_InvalidText.C, .ref S.e_InvalidText.C, b 12, rfl, (((((((s0.trans v1).trans z1).trans v2).trans z2).trans v3).trans z3) _ _ ha), T, hd3, (fun u h => h), kt 12 _ rfl, .ref a, rfl, a, C, d, .ref S.e_UndefinedName.C, .ref S.e_UndefinedName.C, b 13, rfl, (((((((s0.trans v1).trans z1).trans v2).trans z2).trans v3).trans z3) _ _ ha), T, hd3, (fun u h => h), kt 13 _ rfl, .ref a, rfl, a, C, d, .ref S.e_CyclicDefinition.C, .ref S.e_CyclicDefinition.C, b 14, rfl, (((((((s0.trans v1).trans z1).trans v2).trans z2).trans v3).trans z3) _ _ ha), T, hd3, (fun u h => h), kt 14 _ rfl, by show 3 ≤ sizeLine; decide, fun p4 m4 => ?_⟩
    have v4 := same_upd (o := .lst [V.bl (b 12), V.bl (b 13), V.bl (b 14)]) m4
    have y4 : (upd H3 p4 (.lst [V.bl (b 12), V.bl (b 13), V.bl (b 14)])) p4 = some (.lst [V.bl (b 12), V.bl (b 13), V.bl (b 14)]) := upd_same
    generalize upd H3 p4 (.lst [V.bl (b 12), V.bl (b 13), V.bl (b 14)]) = I4 at v4 y4 ⊢
    refine ⟨l3, p4, [V.bl (b 0), V.bl (b 1), V.bl (b 2), V.bl (b 3), V.bl (b 4), V.bl (b 5), V.bl (b 6), V.bl (b 7), V.bl (b 8), V.bl (b 9), V.bl (b 10), V.bl (b 11)], [V.bl (b 12), V.bl (b 13), V.bl (b 14)], rfl, rfl, v4 _ _ g3, y4, by show 15 ≤ sizeLine; decide, fun l4 n4 => ?_⟩
    have z4 := same_upd (o := .lst ([V.bl (b 0), V.bl (b 1), V.bl (b 2), V.bl (b 3), V.bl (b 4), V.bl (b 5), V.bl (b 6), V.bl (b 7), V.bl (b 8), V.bl (b 9), V.bl (b 10), V.bl (b 11)] ++ [V.bl (b 12), V.bl (b 13), V.bl (b 14)])) n4
    have g4 : (upd I4 l4 (.lst ([V.bl (b 0), V.bl (b 1), V.bl (b 2), V.bl (b 3), V.bl (b 4), V.bl (b 5), V.bl (b 6), V.bl (b 7), V.bl (b 8), V.bl (b 9), V.bl (b 10), V.bl (b 11)] ++ [V.bl (b 12), V.bl (b 13), V.bl (b 14)]))) l4 = some (.lst [V.bl (b 0), V.bl (b 1), V.bl (b 2), V.bl (b 3), V.bl (b 4), V.bl (b 5), V.bl (b 6), V.bl (b 7), V.bl (b 8), V.bl (b 9), V.bl (b 10), V.bl (b 11), V.bl (b 12), V.bl (b 13), V.bl (b 14)]) := upd_same
    generalize upd I4 l4 (.lst ([V.bl (b 0), V.bl (b 1), V.bl (b 2), V.bl (b 3), V.bl (b 4), V.bl (b 5), V.bl (b 6), V.bl (b 7), V.bl (b 8), V.bl (b 9), V.bl (b 10), V.bl (b 11)] ++ [V.bl (b 12), V.bl (b 13), V.bl (b 14)])) = H4 at z4 g4 ⊢
    exact k _ _ ((((((((s0.trans v1).trans z1).trans v2).trans z2).trans v3).trans z3).trans v4).trans z4) g4
def spLaw (K : PySem.W.Frag) : Sp := fun vs H Q _ => ∃ (a : Addr) (ns : List Int), vs = [.ref a] ∧ SqL K H a (ns.map V.int) ∧ ∀ H', Q (.bl true) H'
theorem scLaw : FnScope ["_law_script", "_law_tape", "_law_number", "_law_name", "_law_made", "_law_k", "_law_kinds_here", "_law_told", "_law_place"] ["_law_script"] (defScope sLaw) := ⟨rfl, rfl, rfl, by decide +kernel, rfl, by decide +kernel, by decide +kernel⟩
theorem ok_law (D : Df K mg "law" sLaw ["_law_script"]) (S : Ds P K mg) (v0 : PySem.W.kitOne K (.ref S.e_InvalidAlphabet.C) (.type "ValueError") = some true) (v1 : PySem.W.kitOne K (.ref S.e_AlphabetMismatch.C) (.type "ValueError") = some true) (v2 : PySem.W.kitOne K (.ref S.e_InvalidDefinition.C) (.type "ValueError") = some true) (v3 : PySem.W.kitOne K (.ref S.e_NothingToUndo.C) (.type "ValueError") = some true) (v4 : PySem.W.kitOne K (.ref S.e_NothingToRedo.C) (.type "ValueError") = some true) (v5 : PySem.W.kitOne K (.ref S.e_InvalidProduct.C) (.type "ValueError") = some true) (v6 : PySem.W.kitOne K (.ref S.e_InvalidExpression.C) (.type "ValueError") = some true) (v7 : PySem.W.kitOne K (.ref S.e_InvalidProduction.C) (.type "ValueError") = some true) (v8 : PySem.W.kitOne K (.ref S.e_TooLarge.C) (.type "ValueError") = some true) (v9 : PySem.W.kitOne K (.ref S.e_TooMany.C) (.type "ValueError") = some true) (v10 : PySem.W.kitOne K (.ref S.e_NoSuchWord.C) (.type "ValueError") = some true) (v11 : PySem.W.kitOne K (.ref S.e_UnknownSymbol.C) (.type "ValueError") = some true) (v12 : PySem.W.kitOne K (.ref S.e_InvalidText.C) (.type "ValueError") = some true) (v13 : PySem.W.kitOne K (.ref S.e_UndefinedName.C) (.type "ValueError") = some true) (v14 : PySem.W.kitOne K (.ref S.e_CyclicDefinition.C) (.type "ValueError") = some true) : FnOk P w K mg base CX0 6 D.f D.fd ["_law_script"] (spLaw K) := by
  have Gb : FnOk P w K mg base CX0 1 S.begin.f S.begin.fd ["_law_script"] (spBegin K) := ok_begin S.begin
  have Gd : FnOk P w K mg base CX0 1 S.draw.f S.draw.fd ["_law_tape", "_law_many"] spDraw := ok_draw S.draw S.B.len
  have Gp : FnOk P w K mg base CX0 2 S.pick.f S.pick.fd ["_law_tape", "_law_items"] (spPick K) := ok_pick S.pick S.draw S.B.len
  have Gk : FnOk P w K mg base CX0 1 S.kinds.f S.kinds.fd ["_law_e"] (spKinds S) := ok_kinds S
  refine D.F.ok scLaw (fun vs H Q E h => ?_) (fun cdv A outer s H vs Q E hr h => ?_)
  · obtain ⟨a, ns, rfl, _⟩ := h
    rfl
  · obtain ⟨a, ns, rfl, hS, k⟩ := h
    have hr1 : Room 1 _ := hr.mono (by decide)
    have hr2 : Room 2 _ := hr.mono (by decide)
    have sl := sizeLine_eq
    refine ⟨_, PSs.nox (pss_cons (ps_set (i := 1) scLaw.nd rfl (.inl rfl) (pe_call Gb hr1 (by rfl) S.begin.g S.begin.F.kp S.begin.b .nil pass0 (pa_cons (pv 0) pa_nil))) (pss_cons (ps_par (i := 2) (j := 3) rfl scLaw.nd rfl rfl (by decide) rfl rfl (pa_cons (pe_op op_sub (pe_call Gd hr1 (by rfl) S.draw.g S.draw.F.kp S.draw.b .nil pass0 (pa_cons (pv 1) (pa_cons (pe_op op_pow pe_int pe_int) pa_nil))) pe_int) (pa_cons (pe_call Gp hr2 (by rfl) S.pick.g S.pick.F.kp S.pick.b .nil pass0 (pa_cons (pv 1) (pa_cons (pe_lst (pa_cons pe_str (pa_cons pe_str (pa_cons pe_non (pa_cons pe_str pa_nil))))) pa_nil))) pa_nil)) (by rfl)) (pss_cons (ps_set (i := 4) scLaw.nd rfl (.inl rfl) (pe_lst (pa_cons (EK.pe_made (EX.pmk_err0 S.e_InvalidAlphabet.q S.e_InvalidAlphabet.T (by rfl) S.e_InvalidAlphabet.g)) (pa_cons (EK.pe_made (EX.pmk_err0 S.e_AlphabetMismatch.q S.e_AlphabetMismatch.T (by rfl) S.e_AlphabetMismatch.g)) (pa_cons (EK.pe_made (EX.pmk_err0 S.e_InvalidDefinition.q S.e_InvalidDefinition.T (by rfl) S.e_InvalidDefinition.g)) (pa_cons (EK.pe_made (EX.pmk_err0 S.e_NothingToUndo.q S.e_NothingToUndo.T (by rfl) S.e_NothingToUndo.g)) (pa_cons (EK.pe_made (EX.pmk_err0 S.e_NothingToRedo.q S.e_NothingToRedo.T (by rfl) S.e_NothingToRedo.g)) pa_nil))))))) (pss_cons (ps_set (i := 4) scLaw.nd rfl (.inl rfl) (pe_op op_cat (pv 4) (pe_lst (pa_cons (EK.pe_made (EX.pmk_err S.e_InvalidProduct.T S.e_InvalidProduct.iC S.e_InvalidProduct.tI (S.e_InvalidProduct.F w base) hr2 S.e_InvalidProduct.b (by rfl) S.e_InvalidProduct.g (pv 2))) (pa_cons (EK.pe_made (EX.pmk_err S.e_InvalidExpression.T S.e_InvalidExpression.iC S.e_InvalidExpression.tI (S.e_InvalidExpression.F w base) hr2 S.e_InvalidExpression.b (by rfl) S.e_InvalidExpression.g (pv 2))) (pa_cons (EK.pe_made (EX.pmk_err S.e_InvalidProduction.T S.e_InvalidProduction.iC S.e_InvalidProduction.tI (S.e_InvalidProduction.F w base) hr2 S.e_InvalidProduction.b (by rfl) S.e_InvalidProduction.g (pv 2))) (pa_cons (EK.pe_made (EX.pmk_err S.e_TooLarge.T S.e_TooLarge.iC S.e_TooLarge.tI (S.e_TooLarge.F w base) hr2 S.e_TooLarge.b (by rfl) S.e_TooLarge.g (pv 2))) pa_nil))))))) (pss_cons (ps_set (i := 4) scLaw.nd rfl (.inl rfl) (pe_op op_cat (pv 4) (pe_lst (pa_cons (EK.pe_made (EX.pmk_err S.e_TooMany.T S.e_TooMany.iC S.e_TooMany.tI (S.e_TooMany.F w base) hr2 S.e_TooMany.b (by rfl) S.e_TooMany.g (pv 2))) (pa_cons (EK.pe_made (EX.pmk_err S.e_NoSuchWord.T S.e_NoSuchWord.iC S.e_NoSuchWord.tI (S.e_NoSuchWord.F w base) hr2 S.e_NoSuchWord.b (by rfl) S.e_NoSuchWord.g (pv 2))) (pa_cons (EK.pe_made (EX.pmk_err S.e_UnknownSymbol.T S.e_UnknownSymbol.iC S.e_UnknownSymbol.tI (S.e_UnknownSymbol.F w base) hr2 S.e_UnknownSymbol.b (by rfl) S.e_UnknownSymbol.g (pv 3))) (pa_cons (EK.pe_made (EX.pmk_err S.e_InvalidText.T S.e_InvalidText.iC S.e_InvalidText.tI (S.e_InvalidText.F w base) hr2 S.e_InvalidText.b (by rfl) S.e_InvalidText.g (pv 2))) pa_nil))))))) (pss_cons (ps_set (i := 4) scLaw.nd rfl (.inl rfl) (pe_op op_cat (pv 4) (pe_lst (pa_cons (EK.pe_made (EX.pmk_err S.e_UndefinedName.T S.e_UndefinedName.iC S.e_UndefinedName.tI (S.e_UndefinedName.F w base) hr2 S.e_UndefinedName.b (by rfl) S.e_UndefinedName.g (pv 3))) (pa_cons (EK.pe_made (EX.pmk_err S.e_CyclicDefinition.T S.e_CyclicDefinition.iC S.e_CyclicDefinition.tI (S.e_CyclicDefinition.F w base) hr2 S.e_CyclicDefinition.b (by rfl) S.e_CyclicDefinition.g (pv 3))) pa_nil))))) (pss_cons (ps_for PassesOwn.never rfl (pi_range1 rfl S.B.range (pa_cons (pe_callB call_len_seq (by rfl) S.B.len PySem.boot_len (pa_cons (pv 4) pa_nil)) pa_nil)) (pg_name (i := 5) scLaw.nd rfl (.inl rfl)) (pss_cons (ps_set (i := 6) scLaw.nd rfl (.inr rfl) (pe_call Gk hr1 (by rfl) S.kinds.g S.kinds.F.kp S.kinds.b .nil pass0 (pa_cons (pe_ix ix_list (pv 4) (pv 5) (fun _ _ => rfl)) pa_nil))) (pss_cons (ps_if (pt_cmpR (op_neD hr.units) (pe_lc (own := [("_law_place", 8)]) (g := gName 8) rfl scLaw.nd (pi_range1 rfl S.B.range (pa_cons (pe_callB call_len_seq (by rfl) S.B.len PySem.boot_len (pa_cons (pv 6) pa_nil)) pa_nil)) (blkOk_by (N := ["_law_script", "_law_tape", "_law_number", "_law_name", "_law_made", "_law_k", "_law_kinds_here", "_law_told", "_law_place"]) (sc := defScope sLaw) (by decide +kernel)) (fun _ _ _ _ _ => pg_name (i := 8) scLaw.nd rfl (Or.inl rfl)) (fun _ _ _ _ _ => (pts_one (pt_val (pe_ix (r := rIxL K) (by exact ix_list) (pv 6) (pv 8) (fun _ _ => rfl))))) (fun _ _ _ _ _ => (pv 8))) (pe_lst (pa_cons (pv 5) pa_nil)) (nomark _)) (pss_one (ps_ret pe_bl)) pss_nil) (pss_one (ps_if (pw_or (pt_not (pt_val (pe_callB EK.call_isK (by rfl) S.b_isinstance (by decide +kernel) (pa_cons (pe_ix ix_list (pv 4) (pv 5) (fun _ _ => rfl)) (pa_cons (pe_glob (v := V.ref S.e_DownwordsError.C) (by rfl) S.e_DownwordsError.g rfl) pa_nil))))) (pw_or1 (pt_not (pt_val (pe_callB EK.call_isK (by rfl) S.b_isinstance (by decide +kernel) (pa_cons (pe_ix ix_list (pv 4) (pv 5) (fun _ _ => rfl)) (pa_cons (pe_bltn (v := V.ty "ValueError") (by rfl) S.b_ValueError (by decide +kernel : bootBuiltins "ValueError" = some (.type "ValueError")) rfl) pa_nil))))))).pt (pss_one (ps_ret pe_bl)) pss_nil))))) (pss_cons (ps_set (i := 7) scLaw.nd rfl (.inl rfl) (pe_lst (pa_cons (EK.pe_xfK (pe_ix ix_list (pv 4) pe_int (fun _ _ => rfl))) (pa_cons (EK.pe_xfK (pe_ix ix_list (pv 4) pe_int (fun _ _ => rfl))) (pa_cons (EK.pe_xfK (pe_ix ix_list (pv 4) pe_int (fun _ _ => rfl))) (pa_cons (EK.pe_xfK (pe_ix ix_list (pv 4) pe_int (fun _ _ => rfl))) (pa_cons (EK.pe_xfK (pe_ix ix_list (pv 4) pe_int (fun _ _ => rfl))) (pa_cons (EK.pe_xfK (pe_ix ix_list (pv 4) pe_int (fun _ _ => rfl))) (pa_cons (EK.pe_xfK (pe_ix ix_list (pv 4) pe_int (fun _ _ => rfl))) pa_nil))))))))) (pss_one (ps_ret (pe_and (pe_cmpR (op_eqD hr.units) (pv 7) (pe_op op_rep (pe_lst (pa_cons (pv 2) pa_nil)) pe_int) (nomark _)) (pe_one (pe_cmpR (op_eqD hr.units) (pe_lst (pa_cons (EK.pe_xfK (pe_ix ix_list (pv 4) pe_int (fun _ _ => rfl))) (pa_cons (EK.pe_xfK (pe_ix ix_list (pv 4) pe_int (fun _ _ => rfl))) (pa_cons (EK.pe_xfK (pe_ix ix_list (pv 4) pe_int (fun _ _ => rfl))) pa_nil)))) (pe_op op_rep (pe_lst (pa_cons (pv 3) pa_nil)) pe_int) (nomark _)))))))))))))), ?_⟩
    refine ⟨.ref a, rfl, a, ns, rfl, hS, fun H0 t c s0' ht hc T0 => ?_⟩
    refine ⟨.ref t, rfl, 10, 9, rfl, rfl, ⟨by decide, by decide, by decide⟩, t, c, _, 0, rfl, T0, by decide, by decide +kernel, by decide +kernel, fun H1 r k1 T1 r0 r1 => ⟨_, _, rfl, rfl, ?_⟩⟩
    refine ⟨.ref t, rfl, by show 4 ≤ sizeLine; decide, fun o ho => ?_⟩
    have O1 := T1.ne1 ho
    have O2 := T1.ne2 ho
    have so := same_upd (o := .lst [V.str "x", V.str "S", V.non, V.str "abc"]) ho
    refine ⟨t, c, _, _, rfl, T1.upd O1 O2, by decide, .inl ⟨o, _, rfl, SqL.of upd_same, by decide, by decide, fun H3 nm k3 T3 hnm => ?_⟩⟩
    have dnm : ∃ dn : PyData, PyData.canLay0 dn = true ∧ dn.depth = 0 ∧ ∀ G, Dp K G nm dn := by
      rcases List.mem_cons.mp hnm with rfl | hnm
      · exact ⟨.str "x", by decide +kernel, rfl, fun G => .str _⟩
      rcases List.mem_cons.mp hnm with rfl | hnm
      · exact ⟨.str "S", by decide +kernel, rfl, fun G => .str _⟩
      rcases List.mem_cons.mp hnm with rfl | hnm
      · exact ⟨.none, by decide +kernel, rfl, fun G => .non⟩
      · rw [List.mem_singleton.mp hnm]
        exact ⟨.str "abc", by decide +kernel, rfl, fun G => .str _⟩
    obtain ⟨dn, cn, en, Dn⟩ := dnm
    refine ⟨_, _, rfl, ?_⟩
    dsimp only [List.set]
    generalize er : r - 3 = nu
    have okn : EX.MsgOk (.int nu) := .inr (.inl ⟨nu, rfl, by
      have h9 : r < 1000000000 := r1
      have : nu.natAbs < 2 ^ 64 := by omega
      by_cases z : nu.natAbs = 0
      · rw [z]; decide
      · exact Nat.lt_trans ((Nat.log2_lt z).mpr this) (by decide)⟩)
    clear k1 T1 T3 k3 so O1 O2 ho hnm r0 r1 er
    refine fun a0 n0 => ?_
    have s0 := same_upd (o := EK.Kep a0 (.ref S.e_InvalidAlphabet.C) none) n0
    have h0 : (upd H3 a0 (EK.Kep a0 (.ref S.e_InvalidAlphabet.C) none)) a0 = some (EK.Kep a0 (.ref S.e_InvalidAlphabet.C) none) := upd_same
    generalize upd H3 a0 (EK.Kep a0 (.ref S.e_InvalidAlphabet.C) none) = G0 at s0 h0 ⊢
    refine fun a1 n1 => ?_
    have s1 := same_upd (o := EK.Kep a1 (.ref S.e_AlphabetMismatch.C) none) n1
    have h1 : (upd G0 a1 (EK.Kep a1 (.ref S.e_AlphabetMismatch.C) none)) a1 = some (EK.Kep a1 (.ref S.e_AlphabetMismatch.C) none) := upd_same
    generalize upd G0 a1 (EK.Kep a1 (.ref S.e_AlphabetMismatch.C) none) = G1 at s1 h1 ⊢
    refine fun a2 n2 => ?_
    have s2 := same_upd (o := EK.Kep a2 (.ref S.e_InvalidDefinition.C) none) n2
    have h2 : (upd G1 a2 (EK.Kep a2 (.ref S.e_InvalidDefinition.C) none)) a2 = some (EK.Kep a2 (.ref S.e_InvalidDefinition.C) none) := upd_same
    generalize upd G1 a2 (EK.Kep a2 (.ref S.e_InvalidDefinition.C) none) = G2 at s2 h2 ⊢
    refine fun a3 n3 => ?_
    have s3 := same_upd (o := EK.Kep a3 (.ref S.e_NothingToUndo.C) none) n3
    have h3 : (upd G2 a3 (EK.Kep a3 (.ref S.e_NothingToUndo.C) none)) a3 = some (EK.Kep a3 (.ref S.e_NothingToUndo.C) none) := upd_same
    generalize upd G2 a3 (EK.Kep a3 (.ref S.e_NothingToUndo.C) none) = G3 at s3 h3 ⊢
    refine fun a4 n4 => ?_
    have s4 := same_upd (o := EK.Kep a4 (.ref S.e_NothingToRedo.C) none) n4
    have h4 : (upd G3 a4 (EK.Kep a4 (.ref S.e_NothingToRedo.C) none)) a4 = some (EK.Kep a4 (.ref S.e_NothingToRedo.C) none) := upd_same
    generalize upd G3 a4 (EK.Kep a4 (.ref S.e_NothingToRedo.C) none) = G4 at s4 h4 ⊢
    refine ⟨by show 5 ≤ sizeLine; decide, fun p0 q0 => ?_⟩
    have u0 := same_upd (o := .lst [V.ref a0, V.ref a1, V.ref a2, V.ref a3, V.ref a4]) q0
    have g0 : (upd G4 p0 (.lst [V.ref a0, V.ref a1, V.ref a2, V.ref a3, V.ref a4])) p0 = some (.lst [V.ref a0, V.ref a1, V.ref a2, V.ref a3, V.ref a4]) := upd_same
    generalize upd G4 p0 (.lst [V.ref a0, V.ref a1, V.ref a2, V.ref a3, V.ref a4]) = J0 at u0 g0 ⊢
    have e0 : ∃ q, q = p0 := ⟨_, rfl⟩
    obtain ⟨L0, e0⟩ := e0
    subst e0
    dsimp only [List.set]
    refine ⟨.ref L0, rfl, .int nu, rfl, okn, fun d5 m5 a5 n5 => ?_⟩
    have s5 := (same_upd (o := HO.xd [("index", (.int nu))]) m5).trans (same_upd (o := EK.Kep a5 (.ref S.e_InvalidProduct.C) (some d5)) n5)
    have h5 : (upd (upd J0 d5 (.xd [("index", (.int nu))])) a5 (EK.Kep a5 (.ref S.e_InvalidProduct.C) (some d5))) a5 = some (EK.Kep a5 (.ref S.e_InvalidProduct.C) (some d5)) := upd_same
    have x5 : (upd (upd J0 d5 (.xd [("index", (.int nu))])) a5 (EK.Kep a5 (.ref S.e_InvalidProduct.C) (some d5))) d5 = some (.xd [("index", (.int nu))]) := (same_upd (o := EK.Kep a5 (.ref S.e_InvalidProduct.C) (some d5)) n5) _ _ upd_same
    generalize upd (upd J0 d5 (.xd [("index", (.int nu))])) a5 (EK.Kep a5 (.ref S.e_InvalidProduct.C) (some d5)) = G5 at s5 h5 x5 ⊢
    refine ⟨.int nu, rfl, okn, fun d6 m6 a6 n6 => ?_⟩
    have s6 := (same_upd (o := HO.xd [("index", (.int nu))]) m6).trans (same_upd (o := EK.Kep a6 (.ref S.e_InvalidExpression.C) (some d6)) n6)
    have h6 : (upd (upd G5 d6 (.xd [("index", (.int nu))])) a6 (EK.Kep a6 (.ref S.e_InvalidExpression.C) (some d6))) a6 = some (EK.Kep a6 (.ref S.e_InvalidExpression.C) (some d6)) := upd_same
    have x6 : (upd (upd G5 d6 (.xd [("index", (.int nu))])) a6 (EK.Kep a6 (.ref S.e_InvalidExpression.C) (some d6))) d6 = some (.xd [("index", (.int nu))]) := (same_upd (o := EK.Kep a6 (.ref S.e_InvalidExpression.C) (some d6)) n6) _ _ upd_same
    generalize upd (upd G5 d6 (.xd [("index", (.int nu))])) a6 (EK.Kep a6 (.ref S.e_InvalidExpression.C) (some d6)) = G6 at s6 h6 x6 ⊢
    refine ⟨.int nu, rfl, okn, fun d7 m7 a7 n7 => ?_⟩
    have s7 := (same_upd (o := HO.xd [("index", (.int nu))]) m7).trans (same_upd (o := EK.Kep a7 (.ref S.e_InvalidProduction.C) (some d7)) n7)
    have h7 : (upd (upd G6 d7 (.xd [("index", (.int nu))])) a7 (EK.Kep a7 (.ref S.e_InvalidProduction.C) (some d7))) a7 = some (EK.Kep a7 (.ref S.e_InvalidProduction.C) (some d7)) := upd_same
    have x7 : (upd (upd G6 d7 (.xd [("index", (.int nu))])) a7 (EK.Kep a7 (.ref S.e_InvalidProduction.C) (some d7))) d7 = some (.xd [("index", (.int nu))]) := (same_upd (o := EK.Kep a7 (.ref S.e_InvalidProduction.C) (some d7)) n7) _ _ upd_same
    generalize upd (upd G6 d7 (.xd [("index", (.int nu))])) a7 (EK.Kep a7 (.ref S.e_InvalidProduction.C) (some d7)) = G7 at s7 h7 x7 ⊢
    refine ⟨.int nu, rfl, okn, fun d8 m8 a8 n8 => ?_⟩
    have s8 := (same_upd (o := HO.xd [("limit", (.int nu))]) m8).trans (same_upd (o := EK.Kep a8 (.ref S.e_TooLarge.C) (some d8)) n8)
    have h8 : (upd (upd G7 d8 (.xd [("limit", (.int nu))])) a8 (EK.Kep a8 (.ref S.e_TooLarge.C) (some d8))) a8 = some (EK.Kep a8 (.ref S.e_TooLarge.C) (some d8)) := upd_same
    have x8 : (upd (upd G7 d8 (.xd [("limit", (.int nu))])) a8 (EK.Kep a8 (.ref S.e_TooLarge.C) (some d8))) d8 = some (.xd [("limit", (.int nu))]) := (same_upd (o := EK.Kep a8 (.ref S.e_TooLarge.C) (some d8)) n8) _ _ upd_same
    generalize upd (upd G7 d8 (.xd [("limit", (.int nu))])) a8 (EK.Kep a8 (.ref S.e_TooLarge.C) (some d8)) = G8 at s8 h8 x8 ⊢
    refine ⟨by show 4 ≤ sizeLine; decide, fun p1 q1 => ?_⟩
    have u1 := same_upd (o := .lst [V.ref a5, V.ref a6, V.ref a7, V.ref a8]) q1
    have g1 : (upd G8 p1 (.lst [V.ref a5, V.ref a6, V.ref a7, V.ref a8])) p1 = some (.lst [V.ref a5, V.ref a6, V.ref a7, V.ref a8]) := upd_same
    generalize upd G8 p1 (.lst [V.ref a5, V.ref a6, V.ref a7, V.ref a8]) = J1 at u1 g1 ⊢
    refine ⟨L0, p1, [V.ref a0, V.ref a1, V.ref a2, V.ref a3, V.ref a4], [V.ref a5, V.ref a6, V.ref a7, V.ref a8], rfl, rfl, (((((s5).trans s6).trans s7).trans s8).trans u1) _ _ g0, g1, by show 9 ≤ sizeLine; decide, fun L1 r1 => ?_⟩
    have w1 := same_upd (o := .lst ([V.ref a0, V.ref a1, V.ref a2, V.ref a3, V.ref a4] ++ [V.ref a5, V.ref a6, V.ref a7, V.ref a8])) r1
    have f1 : (upd J1 L1 (.lst ([V.ref a0, V.ref a1, V.ref a2, V.ref a3, V.ref a4] ++ [V.ref a5, V.ref a6, V.ref a7, V.ref a8]))) L1 = some (.lst [V.ref a0, V.ref a1, V.ref a2, V.ref a3, V.ref a4, V.ref a5, V.ref a6, V.ref a7, V.ref a8]) := upd_same
    generalize upd J1 L1 (.lst ([V.ref a0, V.ref a1, V.ref a2, V.ref a3, V.ref a4] ++ [V.ref a5, V.ref a6, V.ref a7, V.ref a8])) = M1 at w1 f1 ⊢
    dsimp only [List.set]
    refine ⟨.ref L1, rfl, .int nu, rfl, okn, fun d9 m9 a9 n9 => ?_⟩
    have s9 := (same_upd (o := HO.xd [("limit", (.int nu))]) m9).trans (same_upd (o := EK.Kep a9 (.ref S.e_TooMany.C) (some d9)) n9)
    have h9 : (upd (upd M1 d9 (.xd [("limit", (.int nu))])) a9 (EK.Kep a9 (.ref S.e_TooMany.C) (some d9))) a9 = some (EK.Kep a9 (.ref S.e_TooMany.C) (some d9)) := upd_same
    have x9 : (upd (upd M1 d9 (.xd [("limit", (.int nu))])) a9 (EK.Kep a9 (.ref S.e_TooMany.C) (some d9))) d9 = some (.xd [("limit", (.int nu))]) := (same_upd (o := EK.Kep a9 (.ref S.e_TooMany.C) (some d9)) n9) _ _ upd_same
    generalize upd (upd M1 d9 (.xd [("limit", (.int nu))])) a9 (EK.Kep a9 (.ref S.e_TooMany.C) (some d9)) = G9 at s9 h9 x9 ⊢
    refine ⟨.int nu, rfl, okn, fun d10 m10 a10 n10 => ?_⟩
    have s10 := (same_upd (o := HO.xd [("number", (.int nu))]) m10).trans (same_upd (o := EK.Kep a10 (.ref S.e_NoSuchWord.C) (some d10)) n10)
    have h10 : (upd (upd G9 d10 (.xd [("number", (.int nu))])) a10 (EK.Kep a10 (.ref S.e_NoSuchWord.C) (some d10))) a10 = some (EK.Kep a10 (.ref S.e_NoSuchWord.C) (some d10)) := upd_same
    have x10 : (upd (upd G9 d10 (.xd [("number", (.int nu))])) a10 (EK.Kep a10 (.ref S.e_NoSuchWord.C) (some d10))) d10 = some (.xd [("number", (.int nu))]) := (same_upd (o := EK.Kep a10 (.ref S.e_NoSuchWord.C) (some d10)) n10) _ _ upd_same
    generalize upd (upd G9 d10 (.xd [("number", (.int nu))])) a10 (EK.Kep a10 (.ref S.e_NoSuchWord.C) (some d10)) = G10 at s10 h10 x10 ⊢
    refine ⟨nm, rfl, True.intro, fun d11 m11 a11 n11 => ?_⟩
    have s11 := (same_upd (o := HO.xd [("symbol", nm)]) m11).trans (same_upd (o := EK.Kep a11 (.ref S.e_UnknownSymbol.C) (some d11)) n11)
    have h11 : (upd (upd G10 d11 (.xd [("symbol", nm)])) a11 (EK.Kep a11 (.ref S.e_UnknownSymbol.C) (some d11))) a11 = some (EK.Kep a11 (.ref S.e_UnknownSymbol.C) (some d11)) := upd_same
    have x11 : (upd (upd G10 d11 (.xd [("symbol", nm)])) a11 (EK.Kep a11 (.ref S.e_UnknownSymbol.C) (some d11))) d11 = some (.xd [("symbol", nm)]) := (same_upd (o := EK.Kep a11 (.ref S.e_UnknownSymbol.C) (some d11)) n11) _ _ upd_same
    generalize upd (upd G10 d11 (.xd [("symbol", nm)])) a11 (EK.Kep a11 (.ref S.e_UnknownSymbol.C) (some d11)) = G11 at s11 h11 x11 ⊢
    refine ⟨.int nu, rfl, okn, fun d12 m12 a12 n12 => ?_⟩
    have s12 := (same_upd (o := HO.xd [("line", (.int nu))]) m12).trans (same_upd (o := EK.Kep a12 (.ref S.e_InvalidText.C) (some d12)) n12)
    have h12 : (upd (upd G11 d12 (.xd [("line", (.int nu))])) a12 (EK.Kep a12 (.ref S.e_InvalidText.C) (some d12))) a12 = some (EK.Kep a12 (.ref S.e_InvalidText.C) (some d12)) := upd_same
    have x12 : (upd (upd G11 d12 (.xd [("line", (.int nu))])) a12 (EK.Kep a12 (.ref S.e_InvalidText.C) (some d12))) d12 = some (.xd [("line", (.int nu))]) := (same_upd (o := EK.Kep a12 (.ref S.e_InvalidText.C) (some d12)) n12) _ _ upd_same
    generalize upd (upd G11 d12 (.xd [("line", (.int nu))])) a12 (EK.Kep a12 (.ref S.e_InvalidText.C) (some d12)) = G12 at s12 h12 x12 ⊢
    refine ⟨by show 4 ≤ sizeLine; decide, fun p2 q2 => ?_⟩
    have u2 := same_upd (o := .lst [V.ref a9, V.ref a10, V.ref a11, V.ref a12]) q2
    have g2 : (upd G12 p2 (.lst [V.ref a9, V.ref a10, V.ref a11, V.ref a12])) p2 = some (.lst [V.ref a9, V.ref a10, V.ref a11, V.ref a12]) := upd_same
    generalize upd G12 p2 (.lst [V.ref a9, V.ref a10, V.ref a11, V.ref a12]) = J2 at u2 g2 ⊢
    refine ⟨L1, p2, [V.ref a0, V.ref a1, V.ref a2, V.ref a3, V.ref a4, V.ref a5, V.ref a6, V.ref a7, V.ref a8], [V.ref a9, V.ref a10, V.ref a11, V.ref a12], rfl, rfl, (((((s9).trans s10).trans s11).trans s12).trans u2) _ _ f1, g2, by show 13 ≤ sizeLine; decide, fun L2 r2 => ?_⟩
    have w2 := same_upd (o := .lst ([V.ref a0, V.ref a1, V.ref a2, V.ref a3, V.ref a4, V.ref a5, V.ref a6, V.ref a7, V.ref a8] ++ [V.ref a9, V.ref a10, V.ref a11, V.ref a12])) r2
    have f2 : (upd J2 L2 (.lst ([V.ref a0, V.ref a1, V.ref a2, V.ref a3, V.ref a4, V.ref a5, V.ref a6, V.ref a7, V.ref a8] ++ [V.ref a9, V.ref a10, V.ref a11, V.ref a12]))) L2 = some (.lst [V.ref a0, V.ref a1, V.ref a2, V.ref a3, V.ref a4, V.ref a5, V.ref a6, V.ref a7, V.ref a8, V.ref a9, V.ref a10, V.ref a11, V.ref a12]) := upd_same
    generalize upd J2 L2 (.lst ([V.ref a0, V.ref a1, V.ref a2, V.ref a3, V.ref a4, V.ref a5, V.ref a6, V.ref a7, V.ref a8] ++ [V.ref a9, V.ref a10, V.ref a11, V.ref a12])) = M2 at w2 f2 ⊢
    dsimp only [List.set]
    refine ⟨.ref L2, rfl, nm, rfl, True.intro, fun d13 m13 a13 n13 => ?_⟩
    have s13 := (same_upd (o := HO.xd [("name", nm)]) m13).trans (same_upd (o := EK.Kep a13 (.ref S.e_UndefinedName.C) (some d13)) n13)
    have h13 : (upd (upd M2 d13 (.xd [("name", nm)])) a13 (EK.Kep a13 (.ref S.e_UndefinedName.C) (some d13))) a13 = some (EK.Kep a13 (.ref S.e_UndefinedName.C) (some d13)) := upd_same
    have x13 : (upd (upd M2 d13 (.xd [("name", nm)])) a13 (EK.Kep a13 (.ref S.e_UndefinedName.C) (some d13))) d13 = some (.xd [("name", nm)]) := (same_upd (o := EK.Kep a13 (.ref S.e_UndefinedName.C) (some d13)) n13) _ _ upd_same
    generalize upd (upd M2 d13 (.xd [("name", nm)])) a13 (EK.Kep a13 (.ref S.e_UndefinedName.C) (some d13)) = G13 at s13 h13 x13 ⊢
    refine ⟨nm, rfl, True.intro, fun d14 m14 a14 n14 => ?_⟩
    have s14 := (same_upd (o := HO.xd [("name", nm)]) m14).trans (same_upd (o := EK.Kep a14 (.ref S.e_CyclicDefinition.C) (some d14)) n14)
    have h14 : (upd (upd G13 d14 (.xd [("name", nm)])) a14 (EK.Kep a14 (.ref S.e_CyclicDefinition.C) (some d14))) a14 = some (EK.Kep a14 (.ref S.e_CyclicDefinition.C) (some d14)) := upd_same
    have x14 : (upd (upd G13 d14 (.xd [("name", nm)])) a14 (EK.Kep a14 (.ref S.e_CyclicDefinition.C) (some d14))) d14 = some (.xd [("name", nm)]) := (same_upd (o := EK.Kep a14 (.ref S.e_CyclicDefinition.C) (some d14)) n14) _ _ upd_same
    generalize upd (upd G13 d14 (.xd [("name", nm)])) a14 (EK.Kep a14 (.ref S.e_CyclicDefinition.C) (some d14)) = G14 at s14 h14 x14 ⊢
    refine ⟨by show 2 ≤ sizeLine; decide, fun p3 q3 => ?_⟩
    have u3 := same_upd (o := .lst [V.ref a13, V.ref a14]) q3
    have g3 : (upd G14 p3 (.lst [V.ref a13, V.ref a14])) p3 = some (.lst [V.ref a13, V.ref a14]) := upd_same
    generalize upd G14 p3 (.lst [V.ref a13, V.ref a14]) = J3 at u3 g3 ⊢
    refine ⟨L2, p3, [V.ref a0, V.ref a1, V.ref a2, V.ref a3, V.ref a4, V.ref a5, V.ref a6, V.ref a7, V.ref a8, V.ref a9, V.ref a10, V.ref a11, V.ref a12], [V.ref a13, V.ref a14], rfl, rfl, (((s13).trans s14).trans u3) _ _ f2, g3, by show 15 ≤ sizeLine; decide, fun L3 r3 => ?_⟩
    have w3 := same_upd (o := .lst ([V.ref a0, V.ref a1, V.ref a2, V.ref a3, V.ref a4, V.ref a5, V.ref a6, V.ref a7, V.ref a8, V.ref a9, V.ref a10, V.ref a11, V.ref a12] ++ [V.ref a13, V.ref a14])) r3
    have f3 : (upd J3 L3 (.lst ([V.ref a0, V.ref a1, V.ref a2, V.ref a3, V.ref a4, V.ref a5, V.ref a6, V.ref a7, V.ref a8, V.ref a9, V.ref a10, V.ref a11, V.ref a12] ++ [V.ref a13, V.ref a14]))) L3 = some (.lst [V.ref a0, V.ref a1, V.ref a2, V.ref a3, V.ref a4, V.ref a5, V.ref a6, V.ref a7, V.ref a8, V.ref a9, V.ref a10, V.ref a11, V.ref a12, V.ref a13, V.ref a14]) := upd_same
    generalize upd J3 L3 (.lst ([V.ref a0, V.ref a1, V.ref a2, V.ref a3, V.ref a4, V.ref a5, V.ref a6, V.ref a7, V.ref a8, V.ref a9, V.ref a10, V.ref a11, V.ref a12] ++ [V.ref a13, V.ref a14])) = M3 at w3 f3 ⊢
    dsimp only [List.set]
    have t22 : Same M3 M3 := Same.refl _
    have t21 := w3.trans t22
    have t20 := u3.trans t21
    have t19 := s14.trans t20
    have t18 := s13.trans t19
    have t17 := w2.trans t18
    have t16 := u2.trans t17
    have t15 := s12.trans t16
    have t14 := s11.trans t15
    have t13 := s10.trans t14
    have t12 := s9.trans t13
    have t11 := w1.trans t12
    have t10 := u1.trans t11
    have t9 := s8.trans t10
    have t8 := s7.trans t9
    have t7 := s6.trans t8
    have t6 := s5.trans t7
    have t5 := u0.trans t6
    have t4 := s4.trans t5
    have t3 := s3.trans t4
    have t2 := s2.trans t3
    have t1 := s1.trans t2
    have t0 := s0.trans t1
    have h0 := t1 _ _ h0
    have h1 := t2 _ _ h1
    have h2 := t3 _ _ h2
    have h3 := t4 _ _ h3
    have h4 := t5 _ _ h4
    have h5 := t7 _ _ h5
    have x5 := t7 _ _ x5
    have h6 := t8 _ _ h6
    have x6 := t8 _ _ x6
    have h7 := t9 _ _ h7
    have x7 := t9 _ _ x7
    have h8 := t10 _ _ h8
    have x8 := t10 _ _ x8
    have h9 := t13 _ _ h9
    have x9 := t13 _ _ x9
    have h10 := t14 _ _ h10
    have x10 := t14 _ _ x10
    have h11 := t15 _ _ h11
    have x11 := t15 _ _ x11
    have h12 := t16 _ _ h12
    have x12 := t16 _ _ x12
    have h13 := t19 _ _ h13
    have x13 := t19 _ _ x13
    have h14 := t20 _ _ h14
    have x14 := t20 _ _ x14
    have gL := f3
    have all : ∀ (i : Nat) (v : V), ([V.ref a0, V.ref a1, V.ref a2, V.ref a3, V.ref a4, V.ref a5, V.ref a6, V.ref a7, V.ref a8, V.ref a9, V.ref a10, V.ref a11, V.ref a12, V.ref a13, V.ref a14] : List V)[i]? = some v → ∃ (C aa : Addr) (d : Option Addr), v = .ref aa ∧ (cs S)[i]? = some C ∧ M3 aa = some (EK.Kep aa (.ref C) d) ∧ EX.ErrC K C ∧ (∀ dd, d = some dd → ∃ fs, M3 dd = some (.xd fs)) ∧ (∀ (j : Nat) (b : Addr), (cs S)[j]? = some b → PySem.W.kitOne K (.ref C) (.ref b) = some (decide (i = j))) ∧ PySem.W.kitOne K (.ref C) (.ref S.e_DownwordsError.C) = some true ∧ PySem.W.kitOne K (.ref C) (.type "ValueError") = some true := fun i v h => match i, v, h with
        | 0, _, rfl => ⟨S.e_InvalidAlphabet.C, a0, none, rfl, rfl, h0, S.e_InvalidAlphabet.T, (fun _ e => nomatch e), kit_0 S, S.k_InvalidAlphabet_DownwordsError, v0⟩
        | 1, _, rfl => ⟨S.e_AlphabetMismatch.C, a1, none, rfl, rfl, h1, S.e_AlphabetMismatch.T, (fun _ e => nomatch e), kit_1 S, S.k_AlphabetMismatch_DownwordsError, v1⟩
        | 2, _, rfl => ⟨S.e_InvalidDefinition.C, a2, none, rfl, rfl, h2, S.e_InvalidDefinition.T, (fun _ e => nomatch e), kit_2 S, S.k_InvalidDefinition_DownwordsError, v2⟩
        | 3, _, rfl => ⟨S.e_NothingToUndo.C, a3, none, rfl, rfl, h3, S.e_NothingToUndo.T, (fun _ e => nomatch e), kit_3 S, S.k_NothingToUndo_DownwordsError, v3⟩
        | 4, _, rfl => ⟨S.e_NothingToRedo.C, a4, none, rfl, rfl, h4, S.e_NothingToRedo.T, (fun _ e => nomatch e), kit_4 S, S.k_NothingToRedo_DownwordsError, v4⟩
        | 5, _, rfl => ⟨S.e_InvalidProduct.C, a5, some d5, rfl, rfl, h5, S.e_InvalidProduct.T, (fun _ e => by cases e; exact ⟨_, x5⟩), kit_5 S, S.k_InvalidProduct_DownwordsError, v5⟩
        | 6, _, rfl => ⟨S.e_InvalidExpression.C, a6, some d6, rfl, rfl, h6, S.e_InvalidExpression.T, (fun _ e => by cases e; exact ⟨_, x6⟩), kit_6 S, S.k_InvalidExpression_DownwordsError, v6⟩
        | 7, _, rfl => ⟨S.e_InvalidProduction.C, a7, some d7, rfl, rfl, h7, S.e_InvalidProduction.T, (fun _ e => by cases e; exact ⟨_, x7⟩), kit_7 S, S.k_InvalidProduction_DownwordsError, v7⟩
        | 8, _, rfl => ⟨S.e_TooLarge.C, a8, some d8, rfl, rfl, h8, S.e_TooLarge.T, (fun _ e => by cases e; exact ⟨_, x8⟩), kit_8 S, S.k_TooLarge_DownwordsError, v8⟩
        | 9, _, rfl => ⟨S.e_TooMany.C, a9, some d9, rfl, rfl, h9, S.e_TooMany.T, (fun _ e => by cases e; exact ⟨_, x9⟩), kit_9 S, S.k_TooMany_DownwordsError, v9⟩
        | 10, _, rfl => ⟨S.e_NoSuchWord.C, a10, some d10, rfl, rfl, h10, S.e_NoSuchWord.T, (fun _ e => by cases e; exact ⟨_, x10⟩), kit_10 S, S.k_NoSuchWord_DownwordsError, v10⟩
        | 11, _, rfl => ⟨S.e_UnknownSymbol.C, a11, some d11, rfl, rfl, h11, S.e_UnknownSymbol.T, (fun _ e => by cases e; exact ⟨_, x11⟩), kit_11 S, S.k_UnknownSymbol_DownwordsError, v11⟩
        | 12, _, rfl => ⟨S.e_InvalidText.C, a12, some d12, rfl, rfl, h12, S.e_InvalidText.T, (fun _ e => by cases e; exact ⟨_, x12⟩), kit_12 S, S.k_InvalidText_DownwordsError, v12⟩
        | 13, _, rfl => ⟨S.e_UndefinedName.C, a13, some d13, rfl, rfl, h13, S.e_UndefinedName.T, (fun _ e => by cases e; exact ⟨_, x13⟩), kit_13 S, S.k_UndefinedName_DownwordsError, v13⟩
        | 14, _, rfl => ⟨S.e_CyclicDefinition.C, a14, some d14, rfl, rfl, h14, S.e_CyclicDefinition.T, (fun _ e => by cases e; exact ⟨_, x14⟩), kit_14 S, S.k_CyclicDefinition_DownwordsError, v14⟩
        | _ + 15, _, h => nomatch h
    refine ⟨.ref L3, rfl, L3, [V.ref a0, V.ref a1, V.ref a2, V.ref a3, V.ref a4, V.ref a5, V.ref a6, V.ref a7, V.ref a8, V.ref a9, V.ref a10, V.ref a11, V.ref a12, V.ref a13, V.ref a14], rfl, .inl (SqL.of gL), 15, rfl, by decide, by decide, for_it walk_range (fun i σ H' => ∃ y5 y6, σ = [some (.ref a), some (.ref t), some (.int nu), some nm, some (.ref L3), y5, y6, none, none] ∧ Same M3 H') ⟨_, _, rfl, Same.refl _⟩ (fun _ _ _ _ _ => trivial) ?_ ?_⟩
    · rintro i x0 σ G G' hi ⟨y5, y6, rfl, sm⟩ ⟨rfl, rfl⟩
      have hi : i < 15 := hi
      obtain ⟨v, hv⟩ : ∃ v, ([V.ref a0, V.ref a1, V.ref a2, V.ref a3, V.ref a4, V.ref a5, V.ref a6, V.ref a7, V.ref a8, V.ref a9, V.ref a10, V.ref a11, V.ref a12, V.ref a13, V.ref a14] : List V)[i]? = some v := ⟨_, List.getElem?_eq_getElem hi⟩
      obtain ⟨C, aa, d, rfl, hC, hA, T, hd, kt, kD, kV⟩ := all i v hv
      have hdm : ∀ {G : Hp}, Same M3 G → ∀ dd, d = some dd → ∃ fs, G dd = some (.xd fs) := fun s dd e => by obtain ⟨fs, q⟩ := hd dd e; exact ⟨fs, s _ _ q⟩
      refine ⟨.ref L3, rfl, .int (0 + (i : Int)), rfl, L3, _, 0 + (i : Int), .ref aa, rfl, rfl, SqL.of (sm _ _ gL), at_cp (j := i) (by omega) hv, aa, C, d, (fun j => decide (i = j)), rfl, sm _ _ hA, T, hdm sm, kt, fun H5 l s5 gl => ?_⟩
      have sm5 := sm.trans s5
      dsimp only [List.set]
      refine ⟨.ref l, rfl, l, _, rfl, .inl (SqL.of gl), 15, rfl, by decide, by decide, fun R hR => ?_⟩
      refine lc_range (lo := 0) (n := 15) (fun j H' => ∃ acc : List V, H' R = some (.lst acc) ∧ acc = (if i < j then [V.int (0 + (i : Int))] else []) ∧ Same H5 H') ?_ ?_ ?_
      · exact ⟨[], upd_same, by rw [if_neg (Nat.not_lt_zero _)], same_upd hR⟩
      · rintro j N hj ⟨acc, gR, ea, sN⟩
        have gj : ((List.range 15).map fun j => V.bl (decide (i = j)))[j]? = some (V.bl (decide (i = j))) := by
          rw [List.getElem?_map, List.getElem?_range hj]
          rfl
        refine ⟨rfl, .ref l, rfl, .int (0 + (j : Int)), rfl, l, _, 0 + (j : Int), .bl (decide (i = j)), rfl, rfl, SqL.of (sN _ _ gl), at_cp (j := j) (by omega) gj, _, rfl, ?_⟩
        by_cases e : i = j
        · subst e
          rw [if_neg (Nat.lt_irrefl _)] at ea
          subst ea
          refine ite2 (fun _ => ?_) (fun h => absurd (decide_eq_true rfl) h)
          exact ⟨_, rfl, _, gR, by decide, [V.int (0 + (i : Int))], by rw [upd_same]; rfl, by rw [if_pos (Nat.lt_succ_self _)], fun b' o e => (upd_ne (ne_of_none e hR)).trans (sN _ _ e)⟩
        · refine ite2 (fun h => absurd (of_decide_eq_true h) e) (fun _ => ?_)
          refine ⟨acc, gR, ?_, sN⟩
          rw [ea]
          by_cases h : i < j
          · rw [if_pos h, if_pos (by omega)]
          · rw [if_neg h, if_neg (by omega)]
      rintro H6 ⟨acc, gR, ea, s6⟩
      rw [if_pos hi] at ea
      subst ea
      have sm6 := sm5.trans s6
      refine ⟨.int (0 + (i : Int)), rfl, by show 1 ≤ sizeLine; decide, fun l2 hl2 => ?_⟩
      have s7 := same_upd (o := .lst [V.int (0 + (i : Int))]) hl2
      have oki : ∀ d ∈ [PyData.int (0 + (i : Int))], PyData.canLay0 d = true ∧ d.depth = 0 := fun d hd => by rw [List.mem_singleton.mp hd]; exact int_okD _
      refine ⟨.list [.int (0 + (i : Int))], .list [.int (0 + (i : Int))], .lst (SqL.of (s7 _ _ gR)) (.cons (.int _) .nil), .lst (SqL.of upd_same) (.cons (.int _) .nil), lst_shaped oki, lst_shaped oki, ?_⟩
      rw [lst_eqv oki]
      refine ⟨_, rfl, iteF ?_⟩
      have sm7 := sm6.trans s7
      refine ⟨.ref L3, rfl, .int (0 + (i : Int)), rfl, L3, _, 0 + (i : Int), .ref aa, rfl, rfl, SqL.of (sm7 _ _ gL), at_cp (j := i) (by omega) hv, aa, C, d, .ref S.e_DownwordsError.C, .ref S.e_DownwordsError.C, true, rfl, sm7 _ _ hA, T, hdm sm7, (fun u h => h), kD, _, rfl, iteF ?_⟩
      refine ⟨.ref L3, rfl, .int (0 + (i : Int)), rfl, L3, _, 0 + (i : Int), .ref aa, rfl, rfl, SqL.of (sm7 _ _ gL), at_cp (j := i) (by omega) hv, aa, C, d, .ty "ValueError", .type "ValueError", true, rfl, sm7 _ _ hA, T, hdm sm7, (fun u h => h), kV, _, rfl, iteF ?_⟩
      exact ⟨_, _, rfl, sm7⟩
    rintro σ F ⟨y5, y6, rfl, sX⟩
    have gL := sX _ _ gL
    have h0 := sX _ _ h0
    have h1 := sX _ _ h1
    have h2 := sX _ _ h2
    have h3 := sX _ _ h3
    have h4 := sX _ _ h4
    have h5 := sX _ _ h5
    have x5 := sX _ _ x5
    have h6 := sX _ _ h6
    have x6 := sX _ _ x6
    have h7 := sX _ _ h7
    have x7 := sX _ _ x7
    have h8 := sX _ _ h8
    have x8 := sX _ _ x8
    have h9 := sX _ _ h9
    have x9 := sX _ _ x9
    have h10 := sX _ _ h10
    have x10 := sX _ _ x10
    have h11 := sX _ _ h11
    have x11 := sX _ _ x11
    have h12 := sX _ _ h12
    have x12 := sX _ _ x12
    have h13 := sX _ _ h13
    have x13 := sX _ _ x13
    have h14 := sX _ _ h14
    have x14 := sX _ _ x14
    refine ⟨.ref L3, rfl, L3, _, 5, .ref a5, rfl, rfl, SqL.of gL, at_cp (j := 5) rfl rfl, a5, S.e_InvalidProduct.C, d5, _, .int nu, rfl, h5, S.e_InvalidProduct.T, S.e_InvalidProduct.no, x5, rfl, .ref L3, rfl, L3, _, 6, .ref a6, rfl, rfl, SqL.of gL, at_cp (j := 6) rfl rfl, a6, S.e_InvalidExpression.C, d6, _, .int nu, rfl, h6, S.e_InvalidExpression.T, S.e_InvalidExpression.no, x6, rfl, .ref L3, rfl, L3, _, 7, .ref a7, rfl, rfl, SqL.of gL, at_cp (j := 7) rfl rfl, a7, S.e_InvalidProduction.C, d7, _, .int nu, rfl, h7, S.e_InvalidProduction.T, S.e_InvalidProduction.no, x7, rfl, .ref L3, rfl, L3, _, 8, .ref a8, rfl, rfl, SqL.of gL, at_cp (j := 8) rfl rfl, a8, S.e_TooLarge.C, d8, _, .int nu, rfl, h8, S.e_TooLarge.T, S.e_TooLarge.no, x8, rfl, .ref L3, rfl, L3, _, 9, .ref a9, rfl, rfl, SqL.of gL, at_cp (j := 9) rfl rfl, a9, S.e_TooMany.C, d9, _, .int nu, rfl, h9, S.e_TooMany.T, S.e_TooMany.no, x9, rfl, .ref L3, rfl, L3, _, 10, .ref a10, rfl, rfl, SqL.of gL, at_cp (j := 10) rfl rfl, a10, S.e_NoSuchWord.C, d10, _, .int nu, rfl, h10, S.e_NoSuchWord.T, S.e_NoSuchWord.no, x10, rfl, .ref L3, rfl, L3, _, 12, .ref a12, rfl, rfl, SqL.of gL, at_cp (j := 12) rfl rfl, a12, S.e_InvalidText.C, d12, _, .int nu, rfl, h12, S.e_InvalidText.T, S.e_InvalidText.no, x12, rfl, by show 7 ≤ sizeLine; decide, fun l3 hl3 => ?_⟩
    have u3 := same_upd (o := .lst [V.int nu, V.int nu, V.int nu, V.int nu, V.int nu, V.int nu, V.int nu]) hl3
    have gl3 : (upd F l3 (.lst [V.int nu, V.int nu, V.int nu, V.int nu, V.int nu, V.int nu, V.int nu])) l3 = some (.lst [V.int nu, V.int nu, V.int nu, V.int nu, V.int nu, V.int nu, V.int nu]) := upd_same
    generalize upd F l3 (.lst [V.int nu, V.int nu, V.int nu, V.int nu, V.int nu, V.int nu, V.int nu]) = F3 at u3 gl3 ⊢
    refine ⟨.ref l3, rfl, .int nu, rfl, by show 1 ≤ sizeLine; decide, fun l4 hl4 => ⟨l4, 7, [.int nu], rfl, rfl, upd_same, by decide, by decide, by show 7 ≤ sizeLine; decide, fun l5 hl5 => ?_⟩⟩
    have u4 := same_upd (o := .lst [V.int nu]) hl4
    have u5 := same_upd (o := .lst (List.replicate (7 : Int).toNat [V.int nu]).flatten) hl5
    have oki : ∀ d ∈ List.replicate 7 (PyData.int nu), PyData.canLay0 d = true ∧ d.depth = 0 := rep_ok (int_okD nu)
    have dp7 : ∀ G, DpAll K G [V.int nu, V.int nu, V.int nu, V.int nu, V.int nu, V.int nu, V.int nu] (List.replicate 7 (PyData.int nu)) := fun G => .cons (.int _) (.cons (.int _) (.cons (.int _) (.cons (.int _) (.cons (.int _) (.cons (.int _) (.cons (.int _) .nil))))))
    refine ⟨.list (List.replicate 7 (.int nu)), .list (List.replicate 7 (.int nu)), .lst (SqL.of (u5 _ _ (u4 _ _ gl3))) (dp7 _), .lst (SqL.of upd_same) (dp7 _), lst_shaped oki, lst_shaped oki, ?_⟩
    rw [lst_eqv oki]
    have sX := (u3.trans u4).trans u5
    have gL := sX _ _ gL
    have h0 := sX _ _ h0
    have h1 := sX _ _ h1
    have h2 := sX _ _ h2
    have h3 := sX _ _ h3
    have h4 := sX _ _ h4
    have h5 := sX _ _ h5
    have x5 := sX _ _ x5
    have h6 := sX _ _ h6
    have x6 := sX _ _ x6
    have h7 := sX _ _ h7
    have x7 := sX _ _ x7
    have h8 := sX _ _ h8
    have x8 := sX _ _ x8
    have h9 := sX _ _ h9
    have x9 := sX _ _ x9
    have h10 := sX _ _ h10
    have x10 := sX _ _ x10
    have h11 := sX _ _ h11
    have x11 := sX _ _ x11
    have h12 := sX _ _ h12
    have x12 := sX _ _ x12
    have h13 := sX _ _ h13
    have x13 := sX _ _ x13
    have h14 := sX _ _ h14
    have x14 := sX _ _ x14
    generalize upd (upd F3 l4 (.lst [V.int nu])) l5 (.lst (List.replicate (7 : Int).toNat [V.int nu]).flatten) = F5 at gL h0 h1 h2 h3 h4 h5 h6 h7 h8 h9 h10 h11 h12 h13 h14 x5 x6 x7 x8 x9 x10 x11 x12 x13 x14 ⊢
    refine ⟨_, rfl, iteT ?_⟩
    refine ⟨.ref L3, rfl, L3, _, 11, .ref a11, rfl, rfl, SqL.of gL, at_cp (j := 11) rfl rfl, a11, S.e_UnknownSymbol.C, d11, _, nm, rfl, h11, S.e_UnknownSymbol.T, S.e_UnknownSymbol.no, x11, rfl, .ref L3, rfl, L3, _, 13, .ref a13, rfl, rfl, SqL.of gL, at_cp (j := 13) rfl rfl, a13, S.e_UndefinedName.C, d13, _, nm, rfl, h13, S.e_UndefinedName.T, S.e_UndefinedName.no, x13, rfl, .ref L3, rfl, L3, _, 14, .ref a14, rfl, rfl, SqL.of gL, at_cp (j := 14) rfl rfl, a14, S.e_CyclicDefinition.C, d14, _, nm, rfl, h14, S.e_CyclicDefinition.T, S.e_CyclicDefinition.no, x14, rfl, by show 3 ≤ sizeLine; decide, fun l6 hl6 => ?_⟩
    have u6 := same_upd (o := .lst [nm, nm, nm]) hl6
    have gl6 : (upd F5 l6 (.lst [nm, nm, nm])) l6 = some (.lst [nm, nm, nm]) := upd_same
    generalize upd F5 l6 (.lst [nm, nm, nm]) = F6 at u6 gl6 ⊢
    refine ⟨nm, rfl, by show 1 ≤ sizeLine; decide, fun l7 hl7 => ⟨l7, 3, [nm], rfl, rfl, upd_same, by decide, by decide, by show 3 ≤ sizeLine; decide, fun l8 hl8 => ?_⟩⟩
    have u7 := same_upd (o := .lst [nm]) hl7
    have u8 := same_upd (o := .lst (List.replicate (3 : Int).toNat [nm]).flatten) hl8
    have okm : ∀ d ∈ List.replicate 3 dn, PyData.canLay0 d = true ∧ d.depth = 0 := rep_ok ⟨cn, en⟩
    have dp3 : ∀ G, DpAll K G [nm, nm, nm] (List.replicate 3 dn) := fun G => .cons (Dn _) (.cons (Dn _) (.cons (Dn _) .nil))
    refine ⟨.list (List.replicate 3 dn), .list (List.replicate 3 dn), .lst (SqL.of (u8 _ _ (u7 _ _ gl6))) (dp3 _), .lst (SqL.of upd_same) (dp3 _), lst_shaped okm, lst_shaped okm, ?_⟩
    rw [lst_eqv okm]
    exact k _
end
end DW
set_option maxHeartbeats 0
namespace DW
open PySem PySem.Spec PyProof.Rows L2
theorem df {K : PySem.W.Frag} {h : Heap} {mg : Str → Option Value} {x : Str} {st : Stmt} {ps : List Str} (X : K.In h) (G : h.Ns mainGlobals mg) (hf : ∃ fd, FunD K x x (defArgs st) (defBody st) (defScope st) [] [] (He.fAd K (x, none)) fd) (hg : (He.Fa.glo x).ok K = true)
    (b : ∀ (kV doc pm : Value) (an : Option Addr) (cdv ct : Value) (us : List Value), us.length = ps.length → bindArgs (PySem.W.fnOf x x (defArgs st) (defBody st) (defScope st) .none kV doc pm an cdv ct) ⟨us, []⟩ = pure (ps.zip us)) :
    ∃ D : Df K mg x st ps, D.f = He.fAd K (x, none) := by
  obtain ⟨fd, F⟩ := hf
  exact ⟨⟨He.fAd K (x, none), fd, F, He.glo_ok X G hg, F.bindsN b⟩, rfl⟩
theorem facts {w : World} {K : PySem.W.Frag} {h : Heap} {mg : Str → Option Value} {f : Addr} (X : K.In h) (G : h.Ns mainGlobals mg) (hfa : mg ("law" : Str) = some (.ref f)) (ct : EX.SaysXT R.prog fa fn xt h K) :
    ∃ fd : FuncData, (∀ (s : Shared) (v : Value), BindsTo s fd ⟨[v], []⟩ [("_law_script", v)]) ∧ ∀ base : Heap, K.In base → base.Ns mainGlobals mg → FnOk R.prog w K mg base CX0 6 f fd ["_law_script"] (spLaw K) := by
  have cx := ct.c
  have c := cx.d
  have e := hfa.symm.trans (He.glo_ok X G (c.fact 0 (f := .glo "law") rfl))
  cases e
  obtain ⟨D0, e0⟩ := df (st := sLaw) (ps := ["_law_script"]) X G (c.def_ 0 (d := mkD "law" sLaw) rfl) (c.fact 0 (f := .glo "law") rfl) fun _ _ _ _ _ _ us hl => match us, hl with | [_], _ => rfl
  obtain ⟨D1, e1⟩ := df (st := sBegin) (ps := ["_law_script"]) X G (c.def_ 1 (d := mkD "_law_begin" sBegin) rfl) (c.fact 1 (f := .glo "_law_begin") rfl) fun _ _ _ _ _ _ us hl => match us, hl with | [_], _ => rfl
  obtain ⟨D2, e2⟩ := df (st := sDraw) (ps := ["_law_tape", "_law_many"]) X G (c.def_ 2 (d := mkD "_law_draw" sDraw) rfl) (c.fact 2 (f := .glo "_law_draw") rfl) fun _ _ _ _ _ _ us hl => match us, hl with | [_, _], _ => rfl
  obtain ⟨D3, e3⟩ := df (st := sPick) (ps := ["_law_tape", "_law_items"]) X G (c.def_ 3 (d := mkD "_law_pick" sPick) rfl) (c.fact 3 (f := .glo "_law_pick") rfl) fun _ _ _ _ _ _ us hl => match us, hl with | [_, _], _ => rfl
  obtain ⟨D4, e4⟩ := df (st := sLKinds) (ps := ["_law_e"]) X G (c.def_ 4 (d := mkD "_law_kinds" sLKinds) rfl) (c.fact 4 (f := .glo "_law_kinds") rfl) fun _ _ _ _ _ _ us hl => match us, hl with | [_], _ => rfl
  obtain ⟨X0, qx0⟩ := cx.ex X G 0 (y := "InvalidAlphabet") rfl
  obtain ⟨X1, qx1⟩ := cx.ex X G 1 (y := "AlphabetMismatch") rfl
  obtain ⟨X2, qx2⟩ := cx.ex X G 2 (y := "InvalidDefinition") rfl
  obtain ⟨X3, qx3⟩ := cx.ex X G 3 (y := "NothingToUndo") rfl
  obtain ⟨X4, qx4⟩ := cx.ex X G 4 (y := "NothingToRedo") rfl
  obtain ⟨X5, qx5⟩ := cx.ex X G 5 (y := "DownwordsError") rfl
  have msup : mg "super" = none := He.free_ok X G (c.fact 11 (f := .free "super") rfl)
  obtain ⟨Y0, qy0⟩ := EX.mkE (ok := EX.MsgOk) X G (cx.ini 0).2 (cx.ini 0).1 (by decide +kernel) (fun F doc pm ctv us h1 h2 h3 h4 h5 hl => by
      obtain ⟨n1, n2, n3, n4, n5, n6, n7⟩ := F
      dsimp only at h1 h2 h3 h4 h5
      subst h1 h2 h3 h4 h5
      match us, hl with
      | [_, _], _ => rfl) (fun F cc oc doc pm ctv od osl w base h1 h2 h3 Sp lk no => by
      obtain ⟨n1, n2, n3, n4, n5, n6, n7⟩ := F
      dsimp only at h1 h2 h3
      subst h1 h2 h3
      exact EX.init_f Sp lk msup (NdefX.nscope_by (show NdefX.nscB _ _ _ (defScope (clsS 3 0)) = true by decide +kernel)) no rfl (by decide +kernel) rfl rfl rfl (by decide) (by decide) (fun L => rfl))
  obtain ⟨Y1, qy1⟩ := EX.mkE (ok := EX.MsgOk) X G (cx.ini 1).2 (cx.ini 1).1 (by decide +kernel) (fun F doc pm ctv us h1 h2 h3 h4 h5 hl => by
      obtain ⟨n1, n2, n3, n4, n5, n6, n7⟩ := F
      dsimp only at h1 h2 h3 h4 h5
      subst h1 h2 h3 h4 h5
      match us, hl with
      | [_, _], _ => rfl) (fun F cc oc doc pm ctv od osl w base h1 h2 h3 Sp lk no => by
      obtain ⟨n1, n2, n3, n4, n5, n6, n7⟩ := F
      dsimp only at h1 h2 h3
      subst h1 h2 h3
      exact EX.init_f Sp lk msup (NdefX.nscope_by (show NdefX.nscB _ _ _ (defScope (clsS 8 0)) = true by decide +kernel)) no rfl (by decide +kernel) rfl rfl rfl (by decide) (by decide) (fun L => rfl))
  obtain ⟨Y2, qy2⟩ := EX.mkE (ok := EX.MsgOk) X G (cx.ini 2).2 (cx.ini 2).1 (by decide +kernel) (fun F doc pm ctv us h1 h2 h3 h4 h5 hl => by
      obtain ⟨n1, n2, n3, n4, n5, n6, n7⟩ := F
      dsimp only at h1 h2 h3 h4 h5
      subst h1 h2 h3 h4 h5
      match us, hl with
      | [_, _], _ => rfl) (fun F cc oc doc pm ctv od osl w base h1 h2 h3 Sp lk no => by
      obtain ⟨n1, n2, n3, n4, n5, n6, n7⟩ := F
      dsimp only at h1 h2 h3
      subst h1 h2 h3
      exact EX.init_f Sp lk msup (NdefX.nscope_by (show NdefX.nscB _ _ _ (defScope (clsS 9 0)) = true by decide +kernel)) no rfl (by decide +kernel) rfl rfl rfl (by decide) (by decide) (fun L => rfl))
  obtain ⟨Y3, qy3⟩ := EX.mkE (ok := EX.MsgOk) X G (cx.ini 3).2 (cx.ini 3).1 (by decide +kernel) (fun F doc pm ctv us h1 h2 h3 h4 h5 hl => by
      obtain ⟨n1, n2, n3, n4, n5, n6, n7⟩ := F
      dsimp only at h1 h2 h3 h4 h5
      subst h1 h2 h3 h4 h5
      match us, hl with
      | [_, _], _ => rfl) (fun F cc oc doc pm ctv od osl w base h1 h2 h3 Sp lk no => by
      obtain ⟨n1, n2, n3, n4, n5, n6, n7⟩ := F
      dsimp only at h1 h2 h3
      subst h1 h2 h3
      exact EX.init_f Sp lk msup (NdefX.nscope_by (show NdefX.nscB _ _ _ (defScope (clsS 5 0)) = true by decide +kernel)) no rfl (by decide +kernel) rfl rfl rfl (by decide) (by decide) (fun L => rfl))
  obtain ⟨Y4, qy4⟩ := EX.mkE (ok := EX.MsgOk) X G (cx.ini 4).2 (cx.ini 4).1 (by decide +kernel) (fun F doc pm ctv us h1 h2 h3 h4 h5 hl => by
      obtain ⟨n1, n2, n3, n4, n5, n6, n7⟩ := F
      dsimp only at h1 h2 h3 h4 h5
      subst h1 h2 h3 h4 h5
      match us, hl with
      | [_, _], _ => rfl) (fun F cc oc doc pm ctv od osl w base h1 h2 h3 Sp lk no => by
      obtain ⟨n1, n2, n3, n4, n5, n6, n7⟩ := F
      dsimp only at h1 h2 h3
      subst h1 h2 h3
      exact EX.init_f Sp lk msup (NdefX.nscope_by (show NdefX.nscB _ _ _ (defScope (clsS 6 0)) = true by decide +kernel)) no rfl (by decide +kernel) rfl rfl rfl (by decide) (by decide) (fun L => rfl))
  obtain ⟨Y5, qy5⟩ := EX.mkE (ok := EX.MsgOk) X G (cx.ini 5).2 (cx.ini 5).1 (by decide +kernel) (fun F doc pm ctv us h1 h2 h3 h4 h5 hl => by
      obtain ⟨n1, n2, n3, n4, n5, n6, n7⟩ := F
      dsimp only at h1 h2 h3 h4 h5
      subst h1 h2 h3 h4 h5
      match us, hl with
      | [_, _], _ => rfl) (fun F cc oc doc pm ctv od osl w base h1 h2 h3 Sp lk no => by
      obtain ⟨n1, n2, n3, n4, n5, n6, n7⟩ := F
      dsimp only at h1 h2 h3
      subst h1 h2 h3
      exact EX.init_f Sp lk msup (NdefX.nscope_by (show NdefX.nscB _ _ _ (defScope (clsS 7 0)) = true by decide +kernel)) no rfl (by decide +kernel) rfl rfl rfl (by decide) (by decide) (fun L => rfl))
  obtain ⟨Y6, qy6⟩ := EX.mkE (ok := (fun _ => True)) X G (cx.ini 6).2 (cx.ini 6).1 (by decide +kernel) (fun F doc pm ctv us h1 h2 h3 h4 h5 hl => by
      obtain ⟨n1, n2, n3, n4, n5, n6, n7⟩ := F
      dsimp only at h1 h2 h3 h4 h5
      subst h1 h2 h3 h4 h5
      match us, hl with
      | [_, _], _ => rfl) (fun F cc oc doc pm ctv od osl w base h1 h2 h3 Sp lk no => by
      obtain ⟨n1, n2, n3, n4, n5, n6, n7⟩ := F
      dsimp only at h1 h2 h3
      subst h1 h2 h3
      exact EX.init_c Sp lk msup (NdefX.nscope_by (show NdefX.nscB _ _ _ (defScope (clsS 10 0)) = true by decide +kernel)) no rfl rfl rfl rfl (by decide) (by decide) (fun L => rfl))
  obtain ⟨Y7, qy7⟩ := EX.mkE (ok := EX.MsgOk) X G (cx.ini 7).2 (cx.ini 7).1 (by decide +kernel) (fun F doc pm ctv us h1 h2 h3 h4 h5 hl => by
      obtain ⟨n1, n2, n3, n4, n5, n6, n7⟩ := F
      dsimp only at h1 h2 h3 h4 h5
      subst h1 h2 h3 h4 h5
      match us, hl with
      | [_, _], _ => rfl) (fun F cc oc doc pm ctv od osl w base h1 h2 h3 Sp lk no => by
      obtain ⟨n1, n2, n3, n4, n5, n6, n7⟩ := F
      dsimp only at h1 h2 h3
      subst h1 h2 h3
      exact EX.init_f Sp lk msup (NdefX.nscope_by (show NdefX.nscB _ _ _ (defScope (clsS 11 0)) = true by decide +kernel)) no rfl (by decide +kernel) rfl rfl rfl (by decide) (by decide) (fun L => rfl))
  obtain ⟨Y8, qy8⟩ := EX.mkE (ok := (fun _ => True)) X G (cx.ini 8).2 (cx.ini 8).1 (by decide +kernel) (fun F doc pm ctv us h1 h2 h3 h4 h5 hl => by
      obtain ⟨n1, n2, n3, n4, n5, n6, n7⟩ := F
      dsimp only at h1 h2 h3 h4 h5
      subst h1 h2 h3 h4 h5
      match us, hl with
      | [_, _], _ => rfl) (fun F cc oc doc pm ctv od osl w base h1 h2 h3 Sp lk no => by
      obtain ⟨n1, n2, n3, n4, n5, n6, n7⟩ := F
      dsimp only at h1 h2 h3
      subst h1 h2 h3
      exact EX.init_c Sp lk msup (NdefX.nscope_by (show NdefX.nscB _ _ _ (defScope (clsS 13 0)) = true by decide +kernel)) no rfl rfl rfl rfl (by decide) (by decide) (fun L => rfl))
  obtain ⟨Y9, qy9⟩ := EX.mkE (ok := (fun _ => True)) X G (cx.ini 9).2 (cx.ini 9).1 (by decide +kernel) (fun F doc pm ctv us h1 h2 h3 h4 h5 hl => by
      obtain ⟨n1, n2, n3, n4, n5, n6, n7⟩ := F
      dsimp only at h1 h2 h3 h4 h5
      subst h1 h2 h3 h4 h5
      match us, hl with
      | [_, _], _ => rfl) (fun F cc oc doc pm ctv od osl w base h1 h2 h3 Sp lk no => by
      obtain ⟨n1, n2, n3, n4, n5, n6, n7⟩ := F
      dsimp only at h1 h2 h3
      subst h1 h2 h3
      exact EX.init_c Sp lk msup (NdefX.nscope_by (show NdefX.nscB _ _ _ (defScope (clsS 14 0)) = true by decide +kernel)) no rfl rfl rfl rfl (by decide) (by decide) (fun L => rfl))
  have kk0 : PySem.W.kitOne K (.ref X0.C) (.ref X0.C) = some true := by rw [qx0]; exact cx.kit 0
  have kk1 : PySem.W.kitOne K (.ref X0.C) (.ref X1.C) = some false := by rw [qx0, qx1]; exact cx.kit 1
  have kk2 : PySem.W.kitOne K (.ref X0.C) (.ref X2.C) = some false := by rw [qx0, qx2]; exact cx.kit 2
  have kk3 : PySem.W.kitOne K (.ref X0.C) (.ref X3.C) = some false := by rw [qx0, qx3]; exact cx.kit 3
  have kk4 : PySem.W.kitOne K (.ref X0.C) (.ref X4.C) = some false := by rw [qx0, qx4]; exact cx.kit 4
  have kk5 : PySem.W.kitOne K (.ref X0.C) (.ref Y0.C) = some false := by rw [qx0, qy0]; exact cx.kit 5
  have kk6 : PySem.W.kitOne K (.ref X0.C) (.ref Y1.C) = some false := by rw [qx0, qy1]; exact cx.kit 6
  have kk7 : PySem.W.kitOne K (.ref X0.C) (.ref Y2.C) = some false := by rw [qx0, qy2]; exact cx.kit 7
  have kk8 : PySem.W.kitOne K (.ref X0.C) (.ref Y3.C) = some false := by rw [qx0, qy3]; exact cx.kit 8
  have kk9 : PySem.W.kitOne K (.ref X0.C) (.ref Y4.C) = some false := by rw [qx0, qy4]; exact cx.kit 9
  have kk10 : PySem.W.kitOne K (.ref X0.C) (.ref Y5.C) = some false := by rw [qx0, qy5]; exact cx.kit 10
  have kk11 : PySem.W.kitOne K (.ref X0.C) (.ref Y6.C) = some false := by rw [qx0, qy6]; exact cx.kit 11
  have kk12 : PySem.W.kitOne K (.ref X0.C) (.ref Y7.C) = some false := by rw [qx0, qy7]; exact cx.kit 12
  have kk13 : PySem.W.kitOne K (.ref X0.C) (.ref Y8.C) = some false := by rw [qx0, qy8]; exact cx.kit 13
  have kk14 : PySem.W.kitOne K (.ref X0.C) (.ref Y9.C) = some false := by rw [qx0, qy9]; exact cx.kit 14
  have kk15 : PySem.W.kitOne K (.ref X1.C) (.ref X0.C) = some false := by rw [qx1, qx0]; exact cx.kit 15
  have kk16 : PySem.W.kitOne K (.ref X1.C) (.ref X1.C) = some true := by rw [qx1]; exact cx.kit 16
  have kk17 : PySem.W.kitOne K (.ref X1.C) (.ref X2.C) = some false := by rw [qx1, qx2]; exact cx.kit 17
  have kk18 : PySem.W.kitOne K (.ref X1.C) (.ref X3.C) = some false := by rw [qx1, qx3]; exact cx.kit 18
  have kk19 : PySem.W.kitOne K (.ref X1.C) (.ref X4.C) = some false := by rw [qx1, qx4]; exact cx.kit 19
  have kk20 : PySem.W.kitOne K (.ref X1.C) (.ref Y0.C) = some false := by rw [qx1, qy0]; exact cx.kit 20
  have kk21 : PySem.W.kitOne K (.ref X1.C) (.ref Y1.C) = some false := by rw [qx1, qy1]; exact cx.kit 21
  have kk22 : PySem.W.kitOne K (.ref X1.C) (.ref Y2.C) = some false := by rw [qx1, qy2]; exact cx.kit 22
  have kk23 : PySem.W.kitOne K (.ref X1.C) (.ref Y3.C) = some false := by rw [qx1, qy3]; exact cx.kit 23
  have kk24 : PySem.W.kitOne K (.ref X1.C) (.ref Y4.C) = some false := by rw [qx1, qy4]; exact cx.kit 24
  have kk25 : PySem.W.kitOne K (.ref X1.C) (.ref Y5.C) = some false := by rw [qx1, qy5]; exact cx.kit 25
  have kk26 : PySem.W.kitOne K (.ref X1.C) (.ref Y6.C) = some false := by rw [qx1, qy6]; exact cx.kit 26
  have kk27 : PySem.W.kitOne K (.ref X1.C) (.ref Y7.C) = some false := by rw [qx1, qy7]; exact cx.kit 27
  have kk28 : PySem.W.kitOne K (.ref X1.C) (.ref Y8.C) = some false := by rw [qx1, qy8]; exact cx.kit 28
  have kk29 : PySem.W.kitOne K (.ref X1.C) (.ref Y9.C) = some false := by rw [qx1, qy9]; exact cx.kit 29
  have kk30 : PySem.W.kitOne K (.ref X2.C) (.ref X0.C) = some false := by rw [qx2, qx0]; exact cx.kit 30
  have kk31 : PySem.W.kitOne K (.ref X2.C) (.ref X1.C) = some false := by rw [qx2, qx1]; exact cx.kit 31
  have kk32 : PySem.W.kitOne K (.ref X2.C) (.ref X2.C) = some true := by rw [qx2]; exact cx.kit 32
  have kk33 : PySem.W.kitOne K (.ref X2.C) (.ref X3.C) = some false := by rw [qx2, qx3]; exact cx.kit 33
  have kk34 : PySem.W.kitOne K (.ref X2.C) (.ref X4.C) = some false := by rw [qx2, qx4]; exact cx.kit 34
  have kk35 : PySem.W.kitOne K (.ref X2.C) (.ref Y0.C) = some false := by rw [qx2, qy0]; exact cx.kit 35
  have kk36 : PySem.W.kitOne K (.ref X2.C) (.ref Y1.C) = some false := by rw [qx2, qy1]; exact cx.kit 36
  have kk37 : PySem.W.kitOne K (.ref X2.C) (.ref Y2.C) = some false := by rw [qx2, qy2]; exact cx.kit 37
  have kk38 : PySem.W.kitOne K (.ref X2.C) (.ref Y3.C) = some false := by rw [qx2, qy3]; exact cx.kit 38
  have kk39 : PySem.W.kitOne K (.ref X2.C) (.ref Y4.C) = some false := by rw [qx2, qy4]; exact cx.kit 39
  have kk40 : PySem.W.kitOne K (.ref X2.C) (.ref Y5.C) = some false := by rw [qx2, qy5]; exact cx.kit 40
  have kk41 : PySem.W.kitOne K (.ref X2.C) (.ref Y6.C) = some false := by rw [qx2, qy6]; exact cx.kit 41
  have kk42 : PySem.W.kitOne K (.ref X2.C) (.ref Y7.C) = some false := by rw [qx2, qy7]; exact cx.kit 42
  have kk43 : PySem.W.kitOne K (.ref X2.C) (.ref Y8.C) = some false := by rw [qx2, qy8]; exact cx.kit 43
  have kk44 : PySem.W.kitOne K (.ref X2.C) (.ref Y9.C) = some false := by rw [qx2, qy9]; exact cx.kit 44
  have kk45 : PySem.W.kitOne K (.ref X3.C) (.ref X0.C) = some false := by rw [qx3, qx0]; exact cx.kit 45
  have kk46 : PySem.W.kitOne K (.ref X3.C) (.ref X1.C) = some false := by rw [qx3, qx1]; exact cx.kit 46
  have kk47 : PySem.W.kitOne K (.ref X3.C) (.ref X2.C) = some false := by rw [qx3, qx2]; exact cx.kit 47
  have kk48 : PySem.W.kitOne K (.ref X3.C) (.ref X3.C) = some true := by rw [qx3]; exact cx.kit 48
  have kk49 : PySem.W.kitOne K (.ref X3.C) (.ref X4.C) = some false := by rw [qx3, qx4]; exact cx.kit 49
  have kk50 : PySem.W.kitOne K (.ref X3.C) (.ref Y0.C) = some false := by rw [qx3, qy0]; exact cx.kit 50
  have kk51 : PySem.W.kitOne K (.ref X3.C) (.ref Y1.C) = some false := by rw [qx3, qy1]; exact cx.kit 51
  have kk52 : PySem.W.kitOne K (.ref X3.C) (.ref Y2.C) = some false := by rw [qx3, qy2]; exact cx.kit 52
  have kk53 : PySem.W.kitOne K (.ref X3.C) (.ref Y3.C) = some false := by rw [qx3, qy3]; exact cx.kit 53
  have kk54 : PySem.W.kitOne K (.ref X3.C) (.ref Y4.C) = some false := by rw [qx3, qy4]; exact cx.kit 54
  have kk55 : PySem.W.kitOne K (.ref X3.C) (.ref Y5.C) = some false := by rw [qx3, qy5]; exact cx.kit 55
  have kk56 : PySem.W.kitOne K (.ref X3.C) (.ref Y6.C) = some false := by rw [qx3, qy6]; exact cx.kit 56
  have kk57 : PySem.W.kitOne K (.ref X3.C) (.ref Y7.C) = some false := by rw [qx3, qy7]; exact cx.kit 57
  have kk58 : PySem.W.kitOne K (.ref X3.C) (.ref Y8.C) = some false := by rw [qx3, qy8]; exact cx.kit 58
  have kk59 : PySem.W.kitOne K (.ref X3.C) (.ref Y9.C) = some false := by rw [qx3, qy9]; exact cx.kit 59
  have kk60 : PySem.W.kitOne K (.ref X4.C) (.ref X0.C) = some false := by rw [qx4, qx0]; exact cx.kit 60
  have kk61 : PySem.W.kitOne K (.ref X4.C) (.ref X1.C) = some false := by rw [qx4, qx1]; exact cx.kit 61
  have kk62 : PySem.W.kitOne K (.ref X4.C) (.ref X2.C) = some false := by rw [qx4, qx2]; exact cx.kit 62
  have kk63 : PySem.W.kitOne K (.ref X4.C) (.ref X3.C) = some false := by rw [qx4, qx3]; exact cx.kit 63
  have kk64 : PySem.W.kitOne K (.ref X4.C) (.ref X4.C) = some true := by rw [qx4]; exact cx.kit 64
  have kk65 : PySem.W.kitOne K (.ref X4.C) (.ref Y0.C) = some false := by rw [qx4, qy0]; exact cx.kit 65
  have kk66 : PySem.W.kitOne K (.ref X4.C) (.ref Y1.C) = some false := by rw [qx4, qy1]; exact cx.kit 66
  have kk67 : PySem.W.kitOne K (.ref X4.C) (.ref Y2.C) = some false := by rw [qx4, qy2]; exact cx.kit 67
  have kk68 : PySem.W.kitOne K (.ref X4.C) (.ref Y3.C) = some false := by rw [qx4, qy3]; exact cx.kit 68
  have kk69 : PySem.W.kitOne K (.ref X4.C) (.ref Y4.C) = some false := by rw [qx4, qy4]; exact cx.kit 69
  have kk70 : PySem.W.kitOne K (.ref X4.C) (.ref Y5.C) = some false := by rw [qx4, qy5]; exact cx.kit 70
  have kk71 : PySem.W.kitOne K (.ref X4.C) (.ref Y6.C) = some false := by rw [qx4, qy6]; exact cx.kit 71
  have kk72 : PySem.W.kitOne K (.ref X4.C) (.ref Y7.C) = some false := by rw [qx4, qy7]; exact cx.kit 72
  have kk73 : PySem.W.kitOne K (.ref X4.C) (.ref Y8.C) = some false := by rw [qx4, qy8]; exact cx.kit 73
  have kk74 : PySem.W.kitOne K (.ref X4.C) (.ref Y9.C) = some false := by rw [qx4, qy9]; exact cx.kit 74
  have kk75 : PySem.W.kitOne K (.ref Y0.C) (.ref X0.C) = some false := by rw [qy0, qx0]; exact cx.kit 75
  have kk76 : PySem.W.kitOne K (.ref Y0.C) (.ref X1.C) = some false := by rw [qy0, qx1]; exact cx.kit 76
  have kk77 : PySem.W.kitOne K (.ref Y0.C) (.ref X2.C) = some false := by rw [qy0, qx2]; exact cx.kit 77
  have kk78 : PySem.W.kitOne K (.ref Y0.C) (.ref X3.C) = some false := by rw [qy0, qx3]; exact cx.kit 78
  have kk79 : PySem.W.kitOne K (.ref Y0.C) (.ref X4.C) = some false := by rw [qy0, qx4]; exact cx.kit 79
  have kk80 : PySem.W.kitOne K (.ref Y0.C) (.ref Y0.C) = some true := by rw [qy0]; exact cx.kit 80
  have kk81 : PySem.W.kitOne K (.ref Y0.C) (.ref Y1.C) = some false := by rw [qy0, qy1]; exact cx.kit 81
  have kk82 : PySem.W.kitOne K (.ref Y0.C) (.ref Y2.C) = some false := by rw [qy0, qy2]; exact cx.kit 82
  have kk83 : PySem.W.kitOne K (.ref Y0.C) (.ref Y3.C) = some false := by rw [qy0, qy3]; exact cx.kit 83
  have kk84 : PySem.W.kitOne K (.ref Y0.C) (.ref Y4.C) = some false := by rw [qy0, qy4]; exact cx.kit 84
  have kk85 : PySem.W.kitOne K (.ref Y0.C) (.ref Y5.C) = some false := by rw [qy0, qy5]; exact cx.kit 85
  have kk86 : PySem.W.kitOne K (.ref Y0.C) (.ref Y6.C) = some false := by rw [qy0, qy6]; exact cx.kit 86
  have kk87 : PySem.W.kitOne K (.ref Y0.C) (.ref Y7.C) = some false := by rw [qy0, qy7]; exact cx.kit 87
  have kk88 : PySem.W.kitOne K (.ref Y0.C) (.ref Y8.C) = some false := by rw [qy0, qy8]; exact cx.kit 88
  have kk89 : PySem.W.kitOne K (.ref Y0.C) (.ref Y9.C) = some false := by rw [qy0, qy9]; exact cx.kit 89
  have kk90 : PySem.W.kitOne K (.ref Y1.C) (.ref X0.C) = some false := by rw [qy1, qx0]; exact cx.kit 90
  have kk91 : PySem.W.kitOne K (.ref Y1.C) (.ref X1.C) = some false := by rw [qy1, qx1]; exact cx.kit 91
  have kk92 : PySem.W.kitOne K (.ref Y1.C) (.ref X2.C) = some false := by rw [qy1, qx2]; exact cx.kit 92
  have kk93 : PySem.W.kitOne K (.ref Y1.C) (.ref X3.C) = some false := by rw [qy1, qx3]; exact cx.kit 93
  have kk94 : PySem.W.kitOne K (.ref Y1.C) (.ref X4.C) = some false := by rw [qy1, qx4]; exact cx.kit 94
  have kk95 : PySem.W.kitOne K (.ref Y1.C) (.ref Y0.C) = some false := by rw [qy1, qy0]; exact cx.kit 95
  have kk96 : PySem.W.kitOne K (.ref Y1.C) (.ref Y1.C) = some true := by rw [qy1]; exact cx.kit 96
  have kk97 : PySem.W.kitOne K (.ref Y1.C) (.ref Y2.C) = some false := by rw [qy1, qy2]; exact cx.kit 97
  have kk98 : PySem.W.kitOne K (.ref Y1.C) (.ref Y3.C) = some false := by rw [qy1, qy3]; exact cx.kit 98
  have kk99 : PySem.W.kitOne K (.ref Y1.C) (.ref Y4.C) = some false := by rw [qy1, qy4]; exact cx.kit 99
  have kk100 : PySem.W.kitOne K (.ref Y1.C) (.ref Y5.C) = some false := by rw [qy1, qy5]; exact cx.kit 100
  have kk101 : PySem.W.kitOne K (.ref Y1.C) (.ref Y6.C) = some false := by rw [qy1, qy6]; exact cx.kit 101
  have kk102 : PySem.W.kitOne K (.ref Y1.C) (.ref Y7.C) = some false := by rw [qy1, qy7]; exact cx.kit 102
  have kk103 : PySem.W.kitOne K (.ref Y1.C) (.ref Y8.C) = some false := by rw [qy1, qy8]; exact cx.kit 103
  have kk104 : PySem.W.kitOne K (.ref Y1.C) (.ref Y9.C) = some false := by rw [qy1, qy9]; exact cx.kit 104
  have kk105 : PySem.W.kitOne K (.ref Y2.C) (.ref X0.C) = some false := by rw [qy2, qx0]; exact cx.kit 105
  have kk106 : PySem.W.kitOne K (.ref Y2.C) (.ref X1.C) = some false := by rw [qy2, qx1]; exact cx.kit 106
  have kk107 : PySem.W.kitOne K (.ref Y2.C) (.ref X2.C) = some false := by rw [qy2, qx2]; exact cx.kit 107
  have kk108 : PySem.W.kitOne K (.ref Y2.C) (.ref X3.C) = some false := by rw [qy2, qx3]; exact cx.kit 108
  have kk109 : PySem.W.kitOne K (.ref Y2.C) (.ref X4.C) = some false := by rw [qy2, qx4]; exact cx.kit 109
  have kk110 : PySem.W.kitOne K (.ref Y2.C) (.ref Y0.C) = some false := by rw [qy2, qy0]; exact cx.kit 110
  have kk111 : PySem.W.kitOne K (.ref Y2.C) (.ref Y1.C) = some false := by rw [qy2, qy1]; exact cx.kit 111
  have kk112 : PySem.W.kitOne K (.ref Y2.C) (.ref Y2.C) = some true := by rw [qy2]; exact cx.kit 112
  have kk113 : PySem.W.kitOne K (.ref Y2.C) (.ref Y3.C) = some false := by rw [qy2, qy3]; exact cx.kit 113
  have kk114 : PySem.W.kitOne K (.ref Y2.C) (.ref Y4.C) = some false := by rw [qy2, qy4]; exact cx.kit 114
  have kk115 : PySem.W.kitOne K (.ref Y2.C) (.ref Y5.C) = some false := by rw [qy2, qy5]; exact cx.kit 115
  have kk116 : PySem.W.kitOne K (.ref Y2.C) (.ref Y6.C) = some false := by rw [qy2, qy6]; exact cx.kit 116
  have kk117 : PySem.W.kitOne K (.ref Y2.C) (.ref Y7.C) = some false := by rw [qy2, qy7]; exact cx.kit 117
  have kk118 : PySem.W.kitOne K (.ref Y2.C) (.ref Y8.C) = some false := by rw [qy2, qy8]; exact cx.kit 118
  have kk119 : PySem.W.kitOne K (.ref Y2.C) (.ref Y9.C) = some false := by rw [qy2, qy9]; exact cx.kit 119
  have kk120 : PySem.W.kitOne K (.ref Y3.C) (.ref X0.C) = some false := by rw [qy3, qx0]; exact cx.kit 120
  have kk121 : PySem.W.kitOne K (.ref Y3.C) (.ref X1.C) = some false := by rw [qy3, qx1]; exact cx.kit 121
  have kk122 : PySem.W.kitOne K (.ref Y3.C) (.ref X2.C) = some false := by rw [qy3, qx2]; exact cx.kit 122
  have kk123 : PySem.W.kitOne K (.ref Y3.C) (.ref X3.C) = some false := by rw [qy3, qx3]; exact cx.kit 123
  have kk124 : PySem.W.kitOne K (.ref Y3.C) (.ref X4.C) = some false := by rw [qy3, qx4]; exact cx.kit 124
  have kk125 : PySem.W.kitOne K (.ref Y3.C) (.ref Y0.C) = some false := by rw [qy3, qy0]; exact cx.kit 125
  have kk126 : PySem.W.kitOne K (.ref Y3.C) (.ref Y1.C) = some false := by rw [qy3, qy1]; exact cx.kit 126
  have kk127 : PySem.W.kitOne K (.ref Y3.C) (.ref Y2.C) = some false := by rw [qy3, qy2]; exact cx.kit 127
  have kk128 : PySem.W.kitOne K (.ref Y3.C) (.ref Y3.C) = some true := by rw [qy3]; exact cx.kit 128
  have kk129 : PySem.W.kitOne K (.ref Y3.C) (.ref Y4.C) = some false := by rw [qy3, qy4]; exact cx.kit 129
  have kk130 : PySem.W.kitOne K (.ref Y3.C) (.ref Y5.C) = some false := by rw [qy3, qy5]; exact cx.kit 130
  have kk131 : PySem.W.kitOne K (.ref Y3.C) (.ref Y6.C) = some false := by rw [qy3, qy6]; exact cx.kit 131
  have kk132 : PySem.W.kitOne K (.ref Y3.C) (.ref Y7.C) = some false := by rw [qy3, qy7]; exact cx.kit 132
  have kk133 : PySem.W.kitOne K (.ref Y3.C) (.ref Y8.C) = some false := by rw [qy3, qy8]; exact cx.kit 133
  have kk134 : PySem.W.kitOne K (.ref Y3.C) (.ref Y9.C) = some false := by rw [qy3, qy9]; exact cx.kit 134
  have kk135 : PySem.W.kitOne K (.ref Y4.C) (.ref X0.C) = some false := by rw [qy4, qx0]; exact cx.kit 135
  have kk136 : PySem.W.kitOne K (.ref Y4.C) (.ref X1.C) = some false := by rw [qy4, qx1]; exact cx.kit 136
  have kk137 : PySem.W.kitOne K (.ref Y4.C) (.ref X2.C) = some false := by rw [qy4, qx2]; exact cx.kit 137
  have kk138 : PySem.W.kitOne K (.ref Y4.C) (.ref X3.C) = some false := by rw [qy4, qx3]; exact cx.kit 138
  have kk139 : PySem.W.kitOne K (.ref Y4.C) (.ref X4.C) = some false := by rw [qy4, qx4]; exact cx.kit 139
  have kk140 : PySem.W.kitOne K (.ref Y4.C) (.ref Y0.C) = some false := by rw [qy4, qy0]; exact cx.kit 140
  have kk141 : PySem.W.kitOne K (.ref Y4.C) (.ref Y1.C) = some false := by rw [qy4, qy1]; exact cx.kit 141
  have kk142 : PySem.W.kitOne K (.ref Y4.C) (.ref Y2.C) = some false := by rw [qy4, qy2]; exact cx.kit 142
  have kk143 : PySem.W.kitOne K (.ref Y4.C) (.ref Y3.C) = some false := by rw [qy4, qy3]; exact cx.kit 143
  have kk144 : PySem.W.kitOne K (.ref Y4.C) (.ref Y4.C) = some true := by rw [qy4]; exact cx.kit 144
  have kk145 : PySem.W.kitOne K (.ref Y4.C) (.ref Y5.C) = some false := by rw [qy4, qy5]; exact cx.kit 145
  have kk146 : PySem.W.kitOne K (.ref Y4.C) (.ref Y6.C) = some false := by rw [qy4, qy6]; exact cx.kit 146
  have kk147 : PySem.W.kitOne K (.ref Y4.C) (.ref Y7.C) = some false := by rw [qy4, qy7]; exact cx.kit 147
  have kk148 : PySem.W.kitOne K (.ref Y4.C) (.ref Y8.C) = some false := by rw [qy4, qy8]; exact cx.kit 148
  have kk149 : PySem.W.kitOne K (.ref Y4.C) (.ref Y9.C) = some false := by rw [qy4, qy9]; exact cx.kit 149
  have kk150 : PySem.W.kitOne K (.ref Y5.C) (.ref X0.C) = some false := by rw [qy5, qx0]; exact cx.kit 150
  have kk151 : PySem.W.kitOne K (.ref Y5.C) (.ref X1.C) = some false := by rw [qy5, qx1]; exact cx.kit 151
  have kk152 : PySem.W.kitOne K (.ref Y5.C) (.ref X2.C) = some false := by rw [qy5, qx2]; exact cx.kit 152
  have kk153 : PySem.W.kitOne K (.ref Y5.C) (.ref X3.C) = some false := by rw [qy5, qx3]; exact cx.kit 153
  have kk154 : PySem.W.kitOne K (.ref Y5.C) (.ref X4.C) = some false := by rw [qy5, qx4]; exact cx.kit 154
  have kk155 : PySem.W.kitOne K (.ref Y5.C) (.ref Y0.C) = some false := by rw [qy5, qy0]; exact cx.kit 155
  have kk156 : PySem.W.kitOne K (.ref Y5.C) (.ref Y1.C) = some false := by rw [qy5, qy1]; exact cx.kit 156
  have kk157 : PySem.W.kitOne K (.ref Y5.C) (.ref Y2.C) = some false := by rw [qy5, qy2]; exact cx.kit 157
  have kk158 : PySem.W.kitOne K (.ref Y5.C) (.ref Y3.C) = some false := by rw [qy5, qy3]; exact cx.kit 158
  have kk159 : PySem.W.kitOne K (.ref Y5.C) (.ref Y4.C) = some false := by rw [qy5, qy4]; exact cx.kit 159
  have kk160 : PySem.W.kitOne K (.ref Y5.C) (.ref Y5.C) = some true := by rw [qy5]; exact cx.kit 160
  have kk161 : PySem.W.kitOne K (.ref Y5.C) (.ref Y6.C) = some false := by rw [qy5, qy6]; exact cx.kit 161
  have kk162 : PySem.W.kitOne K (.ref Y5.C) (.ref Y7.C) = some false := by rw [qy5, qy7]; exact cx.kit 162
  have kk163 : PySem.W.kitOne K (.ref Y5.C) (.ref Y8.C) = some false := by rw [qy5, qy8]; exact cx.kit 163
  have kk164 : PySem.W.kitOne K (.ref Y5.C) (.ref Y9.C) = some false := by rw [qy5, qy9]; exact cx.kit 164
  have kk165 : PySem.W.kitOne K (.ref Y6.C) (.ref X0.C) = some false := by rw [qy6, qx0]; exact cx.kit 165
  have kk166 : PySem.W.kitOne K (.ref Y6.C) (.ref X1.C) = some false := by rw [qy6, qx1]; exact cx.kit 166
  have kk167 : PySem.W.kitOne K (.ref Y6.C) (.ref X2.C) = some false := by rw [qy6, qx2]; exact cx.kit 167
  have kk168 : PySem.W.kitOne K (.ref Y6.C) (.ref X3.C) = some false := by rw [qy6, qx3]; exact cx.kit 168
  have kk169 : PySem.W.kitOne K (.ref Y6.C) (.ref X4.C) = some false := by rw [qy6, qx4]; exact cx.kit 169
  have kk170 : PySem.W.kitOne K (.ref Y6.C) (.ref Y0.C) = some false := by rw [qy6, qy0]; exact cx.kit 170
  have kk171 : PySem.W.kitOne K (.ref Y6.C) (.ref Y1.C) = some false := by rw [qy6, qy1]; exact cx.kit 171
  have kk172 : PySem.W.kitOne K (.ref Y6.C) (.ref Y2.C) = some false := by rw [qy6, qy2]; exact cx.kit 172
  have kk173 : PySem.W.kitOne K (.ref Y6.C) (.ref Y3.C) = some false := by rw [qy6, qy3]; exact cx.kit 173
  have kk174 : PySem.W.kitOne K (.ref Y6.C) (.ref Y4.C) = some false := by rw [qy6, qy4]; exact cx.kit 174
  have kk175 : PySem.W.kitOne K (.ref Y6.C) (.ref Y5.C) = some false := by rw [qy6, qy5]; exact cx.kit 175
  have kk176 : PySem.W.kitOne K (.ref Y6.C) (.ref Y6.C) = some true := by rw [qy6]; exact cx.kit 176
  have kk177 : PySem.W.kitOne K (.ref Y6.C) (.ref Y7.C) = some false := by rw [qy6, qy7]; exact cx.kit 177
  have kk178 : PySem.W.kitOne K (.ref Y6.C) (.ref Y8.C) = some false := by rw [qy6, qy8]; exact cx.kit 178
  have kk179 : PySem.W.kitOne K (.ref Y6.C) (.ref Y9.C) = some false := by rw [qy6, qy9]; exact cx.kit 179
  have kk180 : PySem.W.kitOne K (.ref Y7.C) (.ref X0.C) = some false := by rw [qy7, qx0]; exact cx.kit 180
  have kk181 : PySem.W.kitOne K (.ref Y7.C) (.ref X1.C) = some false := by rw [qy7, qx1]; exact cx.kit 181
  have kk182 : PySem.W.kitOne K (.ref Y7.C) (.ref X2.C) = some false := by rw [qy7, qx2]; exact cx.kit 182
  have kk183 : PySem.W.kitOne K (.ref Y7.C) (.ref X3.C) = some false := by rw [qy7, qx3]; exact cx.kit 183
  have kk184 : PySem.W.kitOne K (.ref Y7.C) (.ref X4.C) = some false := by rw [qy7, qx4]; exact cx.kit 184
  have kk185 : PySem.W.kitOne K (.ref Y7.C) (.ref Y0.C) = some false := by rw [qy7, qy0]; exact cx.kit 185
  have kk186 : PySem.W.kitOne K (.ref Y7.C) (.ref Y1.C) = some false := by rw [qy7, qy1]; exact cx.kit 186
  have kk187 : PySem.W.kitOne K (.ref Y7.C) (.ref Y2.C) = some false := by rw [qy7, qy2]; exact cx.kit 187
  have kk188 : PySem.W.kitOne K (.ref Y7.C) (.ref Y3.C) = some false := by rw [qy7, qy3]; exact cx.kit 188
  have kk189 : PySem.W.kitOne K (.ref Y7.C) (.ref Y4.C) = some false := by rw [qy7, qy4]; exact cx.kit 189
  have kk190 : PySem.W.kitOne K (.ref Y7.C) (.ref Y5.C) = some false := by rw [qy7, qy5]; exact cx.kit 190
  have kk191 : PySem.W.kitOne K (.ref Y7.C) (.ref Y6.C) = some false := by rw [qy7, qy6]; exact cx.kit 191
  have kk192 : PySem.W.kitOne K (.ref Y7.C) (.ref Y7.C) = some true := by rw [qy7]; exact cx.kit 192
  have kk193 : PySem.W.kitOne K (.ref Y7.C) (.ref Y8.C) = some false := by rw [qy7, qy8]; exact cx.kit 193
  have kk194 : PySem.W.kitOne K (.ref Y7.C) (.ref Y9.C) = some false := by rw [qy7, qy9]; exact cx.kit 194
  have kk195 : PySem.W.kitOne K (.ref Y8.C) (.ref X0.C) = some false := by rw [qy8, qx0]; exact cx.kit 195
  have kk196 : PySem.W.kitOne K (.ref Y8.C) (.ref X1.C) = some false := by rw [qy8, qx1]; exact cx.kit 196
  have kk197 : PySem.W.kitOne K (.ref Y8.C) (.ref X2.C) = some false := by rw [qy8, qx2]; exact cx.kit 197
  have kk198 : PySem.W.kitOne K (.ref Y8.C) (.ref X3.C) = some false := by rw [qy8, qx3]; exact cx.kit 198
  have kk199 : PySem.W.kitOne K (.ref Y8.C) (.ref X4.C) = some false := by rw [qy8, qx4]; exact cx.kit 199
  have kk200 : PySem.W.kitOne K (.ref Y8.C) (.ref Y0.C) = some false := by rw [qy8, qy0]; exact cx.kit 200
  have kk201 : PySem.W.kitOne K (.ref Y8.C) (.ref Y1.C) = some false := by rw [qy8, qy1]; exact cx.kit 201
  have kk202 : PySem.W.kitOne K (.ref Y8.C) (.ref Y2.C) = some false := by rw [qy8, qy2]; exact cx.kit 202
  have kk203 : PySem.W.kitOne K (.ref Y8.C) (.ref Y3.C) = some false := by rw [qy8, qy3]; exact cx.kit 203
  have kk204 : PySem.W.kitOne K (.ref Y8.C) (.ref Y4.C) = some false := by rw [qy8, qy4]; exact cx.kit 204
  have kk205 : PySem.W.kitOne K (.ref Y8.C) (.ref Y5.C) = some false := by rw [qy8, qy5]; exact cx.kit 205
  have kk206 : PySem.W.kitOne K (.ref Y8.C) (.ref Y6.C) = some false := by rw [qy8, qy6]; exact cx.kit 206
  have kk207 : PySem.W.kitOne K (.ref Y8.C) (.ref Y7.C) = some false := by rw [qy8, qy7]; exact cx.kit 207
  have kk208 : PySem.W.kitOne K (.ref Y8.C) (.ref Y8.C) = some true := by rw [qy8]; exact cx.kit 208
  have kk209 : PySem.W.kitOne K (.ref Y8.C) (.ref Y9.C) = some false := by rw [qy8, qy9]; exact cx.kit 209
  have kk210 : PySem.W.kitOne K (.ref Y9.C) (.ref X0.C) = some false := by rw [qy9, qx0]; exact cx.kit 210
  have kk211 : PySem.W.kitOne K (.ref Y9.C) (.ref X1.C) = some false := by rw [qy9, qx1]; exact cx.kit 211
  have kk212 : PySem.W.kitOne K (.ref Y9.C) (.ref X2.C) = some false := by rw [qy9, qx2]; exact cx.kit 212
  have kk213 : PySem.W.kitOne K (.ref Y9.C) (.ref X3.C) = some false := by rw [qy9, qx3]; exact cx.kit 213
  have kk214 : PySem.W.kitOne K (.ref Y9.C) (.ref X4.C) = some false := by rw [qy9, qx4]; exact cx.kit 214
  have kk215 : PySem.W.kitOne K (.ref Y9.C) (.ref Y0.C) = some false := by rw [qy9, qy0]; exact cx.kit 215
  have kk216 : PySem.W.kitOne K (.ref Y9.C) (.ref Y1.C) = some false := by rw [qy9, qy1]; exact cx.kit 216
  have kk217 : PySem.W.kitOne K (.ref Y9.C) (.ref Y2.C) = some false := by rw [qy9, qy2]; exact cx.kit 217
  have kk218 : PySem.W.kitOne K (.ref Y9.C) (.ref Y3.C) = some false := by rw [qy9, qy3]; exact cx.kit 218
  have kk219 : PySem.W.kitOne K (.ref Y9.C) (.ref Y4.C) = some false := by rw [qy9, qy4]; exact cx.kit 219
  have kk220 : PySem.W.kitOne K (.ref Y9.C) (.ref Y5.C) = some false := by rw [qy9, qy5]; exact cx.kit 220
  have kk221 : PySem.W.kitOne K (.ref Y9.C) (.ref Y6.C) = some false := by rw [qy9, qy6]; exact cx.kit 221
  have kk222 : PySem.W.kitOne K (.ref Y9.C) (.ref Y7.C) = some false := by rw [qy9, qy7]; exact cx.kit 222
  have kk223 : PySem.W.kitOne K (.ref Y9.C) (.ref Y8.C) = some false := by rw [qy9, qy8]; exact cx.kit 223
  have kk224 : PySem.W.kitOne K (.ref Y9.C) (.ref Y9.C) = some true := by rw [qy9]; exact cx.kit 224
  have kk225 : PySem.W.kitOne K (.ref X0.C) (.ref X5.C) = some true := by rw [qx0, qx5]; exact cx.kit 225
  have kk226 : PySem.W.kitOne K (.ref X1.C) (.ref X5.C) = some true := by rw [qx1, qx5]; exact cx.kit 226
  have kk227 : PySem.W.kitOne K (.ref X2.C) (.ref X5.C) = some true := by rw [qx2, qx5]; exact cx.kit 227
  have kk228 : PySem.W.kitOne K (.ref X3.C) (.ref X5.C) = some true := by rw [qx3, qx5]; exact cx.kit 228
  have kk229 : PySem.W.kitOne K (.ref X4.C) (.ref X5.C) = some true := by rw [qx4, qx5]; exact cx.kit 229
  have kk230 : PySem.W.kitOne K (.ref Y0.C) (.ref X5.C) = some true := by rw [qy0, qx5]; exact cx.kit 230
  have kk231 : PySem.W.kitOne K (.ref Y1.C) (.ref X5.C) = some true := by rw [qy1, qx5]; exact cx.kit 231
  have kk232 : PySem.W.kitOne K (.ref Y2.C) (.ref X5.C) = some true := by rw [qy2, qx5]; exact cx.kit 232
  have kk233 : PySem.W.kitOne K (.ref Y3.C) (.ref X5.C) = some true := by rw [qy3, qx5]; exact cx.kit 233
  have kk234 : PySem.W.kitOne K (.ref Y4.C) (.ref X5.C) = some true := by rw [qy4, qx5]; exact cx.kit 234
  have kk235 : PySem.W.kitOne K (.ref Y5.C) (.ref X5.C) = some true := by rw [qy5, qx5]; exact cx.kit 235
  have kk236 : PySem.W.kitOne K (.ref Y6.C) (.ref X5.C) = some true := by rw [qy6, qx5]; exact cx.kit 236
  have kk237 : PySem.W.kitOne K (.ref Y7.C) (.ref X5.C) = some true := by rw [qy7, qx5]; exact cx.kit 237
  have kk238 : PySem.W.kitOne K (.ref Y8.C) (.ref X5.C) = some true := by rw [qy8, qx5]; exact cx.kit 238
  have kk239 : PySem.W.kitOne K (.ref Y9.C) (.ref X5.C) = some true := by rw [qy9, qx5]; exact cx.kit 239
  have b := FunD.bindsA (ps := ["_law_script"]) D0.F fun _ _ _ _ _ _ us hl => match us, hl with | [_], _ => rfl
  refine ⟨D0.fd, fun s v => b s [v] rfl, fun base _ _ => ?_⟩
  have kv0 : PySem.W.kitOne K (.ref X0.C) (.type "ValueError") = some true := by rw [qx0]; exact ct.kve 0
  have kv1 : PySem.W.kitOne K (.ref X1.C) (.type "ValueError") = some true := by rw [qx1]; exact ct.kve 1
  have kv2 : PySem.W.kitOne K (.ref X2.C) (.type "ValueError") = some true := by rw [qx2]; exact ct.kve 2
  have kv3 : PySem.W.kitOne K (.ref X3.C) (.type "ValueError") = some true := by rw [qx3]; exact ct.kve 3
  have kv4 : PySem.W.kitOne K (.ref X4.C) (.type "ValueError") = some true := by rw [qx4]; exact ct.kve 4
  have kv5 : PySem.W.kitOne K (.ref Y0.C) (.type "ValueError") = some true := by rw [qy0]; exact ct.kve 5
  have kv6 : PySem.W.kitOne K (.ref Y1.C) (.type "ValueError") = some true := by rw [qy1]; exact ct.kve 6
  have kv7 : PySem.W.kitOne K (.ref Y2.C) (.type "ValueError") = some true := by rw [qy2]; exact ct.kve 7
  have kv8 : PySem.W.kitOne K (.ref Y3.C) (.type "ValueError") = some true := by rw [qy3]; exact ct.kve 8
  have kv9 : PySem.W.kitOne K (.ref Y4.C) (.type "ValueError") = some true := by rw [qy4]; exact ct.kve 9
  have kv10 : PySem.W.kitOne K (.ref Y5.C) (.type "ValueError") = some true := by rw [qy5]; exact ct.kve 10
  have kv11 : PySem.W.kitOne K (.ref Y6.C) (.type "ValueError") = some true := by rw [qy6]; exact ct.kve 11
  have kv12 : PySem.W.kitOne K (.ref Y7.C) (.type "ValueError") = some true := by rw [qy7]; exact ct.kve 12
  have kv13 : PySem.W.kitOne K (.ref Y8.C) (.type "ValueError") = some true := by rw [qy8]; exact ct.kve 13
  have kv14 : PySem.W.kitOne K (.ref Y9.C) (.type "ValueError") = some true := by rw [qy9]; exact ct.kve 14
  have q := ok_law (P := R.prog) (w := w) (base := base) D0 ⟨D1, D2, D3, D4, ⟨He.free_ok X G (c.fact 5 (f := .free "len") rfl), He.free_ok X G (c.fact 7 (f := .free "range") rfl), He.free_ok X G (c.fact 9 (f := .free "sorted") rfl), He.free_ok X G (c.fact 10 (f := .free "set") rfl)⟩, He.free_ok X G (c.fact 6 (f := .free "isinstance") rfl), He.free_ok X G (c.fact 8 (f := .free "ValueError") rfl), X0, X1, X2, X3, X4, X5, Y0, Y1, Y2, Y3, Y4, Y5, Y6, Y7, Y8, Y9, kk0, kk1, kk2, kk3, kk4, kk5, kk6, kk7, kk8, kk9, kk10, kk11, kk12, kk13, kk14, kk15, kk16, kk17, kk18, kk19, kk20, kk21, kk22, kk23, kk24, kk25, kk26, kk27, kk28, kk29, kk30, kk31, kk32, kk33, kk34, kk35, kk36, kk37, kk38, kk39, kk40, kk41, kk42, kk43, kk44, kk45, kk46, kk47, kk48, kk49, kk50, kk51, kk52, kk53, kk54, kk55, kk56, kk57, kk58, kk59, kk60, kk61, kk62, kk63, kk64, kk65, kk66, kk67, kk68, kk69, kk70, kk71, kk72, kk73, kk74, kk75, kk76, kk77, kk78, kk79, kk80, kk81, kk82, kk83, kk84, kk85, kk86, kk87, kk88, kk89, kk90, kk91, kk92, kk93, kk94, kk95, kk96, kk97, kk98, kk99, kk100, kk101, kk102, kk103, kk104, kk105, kk106, kk107, kk108, kk109, kk110, kk111, kk112, kk113, kk114, kk115, kk116, kk117, kk118, kk119, kk120, kk121, kk122, kk123, kk124, kk125, kk126, kk127, kk128, kk129, kk130, kk131, kk132, kk133, kk134, kk135, kk136, kk137, kk138, kk139, kk140, kk141, kk142, kk143, kk144, kk145, kk146, kk147, kk148, kk149, kk150, kk151, kk152, kk153, kk154, kk155, kk156, kk157, kk158, kk159, kk160, kk161, kk162, kk163, kk164, kk165, kk166, kk167, kk168, kk169, kk170, kk171, kk172, kk173, kk174, kk175, kk176, kk177, kk178, kk179, kk180, kk181, kk182, kk183, kk184, kk185, kk186, kk187, kk188, kk189, kk190, kk191, kk192, kk193, kk194, kk195, kk196, kk197, kk198, kk199, kk200, kk201, kk202, kk203, kk204, kk205, kk206, kk207, kk208, kk209, kk210, kk211, kk212, kk213, kk214, kk215, kk216, kk217, kk218, kk219, kk220, kk221, kk222, kk223, kk224, kk225, kk226, kk227, kk228, kk229, kk230, kk231, kk232, kk233, kk234, kk235, kk236, kk237, kk238, kk239⟩ kv0 kv1 kv2 kv3 kv4 kv5 kv6 kv7 kv8 kv9 kv10 kv11 kv12 kv13 kv14
  rw [e0] at q
  exact q
end DW
open PySem PySem.W PySem.Calls PyProof.Rows
theorem PySem.Challenge.cw_downwords_k22_error_fields_holds : PySem.Challenge.rw_downwords_k22_error_fields.Holds := by
  w_on; o_law
  refine HandSHeadRun.head_any (r := OpenLaw.row PySem.Challenge.rw_downwords_k22_error_fields) (q := view (OpenLaw.row PySem.Challenge.rw_downwords_k22_error_fields).prog [22]) (H := DW.hk) (ob := DW.ob) (M := 12000) (loose := DW.names) (d := HandSHeadRun.topDef (OpenLaw.row PySem.Challenge.rw_downwords_k22_error_fields).prog 22) (kwd := []) DW.ob_eq
    (by kernel_rfl) (fun s => by kernel_rfl) DW.run (by kernel_rfl) (by kernel_rfl) (by kernel_rfl) (by rfl) (by first | assumption | decide +kernel) (by decide +kernel) ⟨rfl, rfl, rfl, rfl, rfl, by decide +kernel⟩ ?hw ?hc
  case hw => w_witness2
  case hc =>
    refine L2.walk_ofE (l := PySem.Challenge.rw_downwords_k22_error_fields) (n := 63) (k := 6) (x := "_law_script") (CX := L2.CX0) rfl (by decide) (by kernel_rfl) ⟨rfl, by decide, by decide⟩ ?F (fun _ _ _ _ z => z)
    intro w mg fa h Y G hmg0
    obtain ⟨K, KX, c⟩ := Y
    have hmg : mg ("law" : PySem.Str) = some (.ref fa) := by
      have e : (HandSHeadRun.topDef (OpenLaw.row PySem.Challenge.rw_downwords_k22_error_fields).prog 22).name = ("law" : PySem.Str) := by kernel_rfl
      rw [← e]
      exact hmg0
    obtain ⟨fd, hb, hF⟩ := DW.facts (w := w) KX G hmg c
    exact ⟨K, fd, DW.spLaw K, KX, hb, fun H a ns hl _ hS => ⟨a, ns, rfl, hS, fun _ => rfl⟩, hF⟩
