import PyProof.Rows.All
import Wide.All
import OpenK.AllK
import Wide.FinOn
import HandS.List
import HandS.SetTxt0
import HandS.SetFor
import HandS.Strs
import HandS.ForMost
import HandS.Defaults
import HandS.HeadEnd
import HandS.SortKw
import KE.SortKeyHeap
import HandS.Flow
import HandS.Small
import HandS.Codes
import HandS.WordsExc
import HandS.Walk
import HandS.Style
import HandS.RaiseMore
import HandS.Conv
import HandS.StrMore
import KE.KStateDown
import Lean
import HandS.More
import HandS.Head0
import HandS.Head1
import HandS.Head2
import HandS.HeadHook1
import HandS.HeadHook2
import PySem.Challenge.RW_downwords_k03_minimal_words
set_option Elab.async false
set_option linter.all false
set_option maxRecDepth 100000
set_option maxHeartbeats 2000000
/-! Sets of texts: set(list of texts), set(text), sorted(set). -/
namespace TX
open PySem PySem.Spec PyProof.Rows L2 PySem.Froz

/-! ### lists -/
theorem perm_of_sub {α : Type} [DecidableEq α] : ∀ (l ks : List α), l.Nodup → (∀ x ∈ l, x ∈ ks) → ks.length ≤ l.length → ks.Perm l
  | [], ks, _, _, hl => by
    have e : ks = [] := List.length_eq_zero_iff.mp (Nat.le_zero.mp hl)
    rw [e]
  | x :: l, ks, nd, sub, hl => by
    obtain ⟨hx, nd'⟩ := List.nodup_cons.mp nd
    have hk : x ∈ ks := sub x List.mem_cons_self
    have p1 : ks.Perm (x :: ks.erase x) := List.perm_cons_erase hk
    have l1 : (ks.erase x).length = ks.length - 1 := List.length_erase_of_mem hk
    have sub' : ∀ y ∈ l, y ∈ ks.erase x := fun y hy => by
      have ne : y ≠ x := fun e => hx (e ▸ hy)
      exact (List.mem_erase_of_ne ne).mpr (sub y (List.mem_cons_of_mem _ hy))
    have p2 := perm_of_sub l (ks.erase x) nd' sub' (by rw [l1]; rw [List.length_cons] at hl; omega)
    exact p1.trans (p2.cons x)

/-! ### the set's state -/
structure Ok (P : Program) (w : World) (D : SD) (l : List Str) : Prop where
  tx : TxOk P w D l
  up : Ris D.2.2.place.toList
  led : w.params.followText "set-order" = true ∨ D.2.2.led = true
  nd : l.Nodup
def At (P : Program) (w : World) (h : Heap) (a : Addr) (l : List Str) : Prop := ∃ D : SD, h.get? a = some (sObj "set" D) ∧ Ok P w D l

section
variable {P : Program} {w : World} {A : Around} {E : Value → Shared → Prop} {s : Shared}
theorem At.move {h h' : Heap} {a : Addr} {l : List Str} (x : At P w h a l) (k : ∀ o, h.get? a = some o → h'.get? a = some o) : At P w h' a l := by
  obtain ⟨D, hD, o⟩ := x
  exact ⟨D, k _ hD, o⟩
theorem tail_up {ep : Nat} {es : Array (Int × Value)} {t : SetTable} {b : Bool} (r : Ris t.place.toList) : Ris (tailTx ep es t b).2.2.place.toList := by
  unfold tailTx
  by_cases c : (!b && t.tooFull) = true
  · rw [if_pos c]
    exact relayAll_ris _ _ _
  · rw [if_neg c]
    exact r
theorem tail_led {ep : Nat} {es : Array (Int × Value)} {t : SetTable} {b : Bool} : (tailTx ep es t b).2.2.led = t.led := by
  unfold tailTx
  by_cases c : (!b && t.tooFull) = true
  · rw [if_pos c]
    exact relayAll_led _ _ _
  · rw [if_neg c]
def dull (t : SetTable) : SetTable := if t.plain = true then { t with plain := false } else t
theorem dull_place (t : SetTable) : (dull t).place = t.place := by
  unfold dull
  by_cases c : t.plain = true
  · rw [if_pos c]
  · rw [if_neg c]
theorem dull_led (t : SetTable) : (dull t).led = t.led := by
  unfold dull
  by_cases c : t.plain = true
  · rw [if_pos c]
  · rw [if_neg c]
theorem Ok.add {D : SD} {l : List Str} {k : Str} (u : Tok) (o : Ok P w D l) (hk : k ∉ l) : Ok P w (addTx (hashStr w k) (.str k u) D) (k :: l) := by
  obtain ⟨es, ep, t⟩ := D
  have r1 : Ris (layNew t es (hashStr w k) (.str k u)).2.1.place.toList := layNew_ris t es _ _ o.up
  have l1 : (layNew t es (hashStr w k) (.str k u)).2.1.led = t.led := layNew_led t es _ _
  have e : addTx (hashStr w k) (.str k u) (es, ep, t) = tailTx ep (layNew t es (hashStr w k) (.str k u)).1 (dull (layNew t es (hashStr w k) (.str k u)).2.1) (layNew t es (hashStr w k) (.str k u)).2.2.1 := rfl
  refine ⟨add_ok u o.tx, ?_, ?_, List.nodup_cons.mpr ⟨hk, o.nd⟩⟩
  · rw [e]
    exact tail_up (by rw [dull_place]; exact r1)
  · refine o.led.imp id fun z => ?_
    rw [e, tail_led, dull_led, l1]
    exact z
theorem add_old {a : Addr} {T : String} {D : SD} {l : List Str} {k : Str} {u : Tok} {Q : Bool → Shared → Prop} (ho : s.heap.get? a = some (sObj T D)) (o : TxOk P w D l) (hk : k ∈ l) (hb : l.length < scanBound) (h : Q false s) :
    wpAny (model P w) A (setAddHashed a (.str k u) (hashStr w k)) Q E s := by
  obtain ⟨es, ep, t⟩ := D
  have dd : (sObj T (es, ep, t)).data = .set es ep t := rfl
  have ft : t.fits es.size = true := o.fit
  have el : ElemsOf (strKind P w) es.toList := o.el
  have z : es.size = l.length := o.sz
  have b0 : es.size < scanBound := by omega
  have ky : (strKind P w).is k (.str k u) = true := is_str k u
  obtain ⟨e0, he0, q0⟩ := (o.mem k).mp hk
  unfold setAddHashed setAddHashedIn
  refine wpAny_holding (wpAny_bind (wpAny_setState_of ho dd ft ?_))
  dsimp only
  rw [byScan_of rfl b0 el]
  simp only [↓reduceIte]
  unfold setAddByScan
  refine wpAny_bind (wpAny_bind (wpAny_rule (wpAny_bind (wpAny_setScan_of (knd := strKind P w) (k := k) ky ho dd ft el ?_))))
  cases fi : List.findIdx? (fun e => (strKind P w).is k e.2) es.toList with
  | some j =>
    dsimp only
    exact wpAny_pure (wpAny_pure h)
  | none =>
    have c := List.findIdx?_eq_none_iff.mp fi e0 he0
    rw [q0] at c
    cases c

/-! ### the loop that fills it -/
theorem fill {I : Addr} {fp wr : List Addr} {G : Array GenState → Array GenState → Prop} {n : Nat} {Pv : Nat → Value → Prop} {St : Nat → Shared → Prop} {R : Result → Shared → Prop}
    (W : WalksS P w A.in1 I fp wr G n Pv St) (a : Addr) (ha : a ∉ fp) (xs : List Str) (hn : n = xs.length) (hb : xs.length + 1 < scanBound) (hv : ∀ i v, Pv i v → ∃ k t, xs[i]? = some k ∧ v = .str k t) :
    ∀ (m i : Nat) (s : Shared), n - i = m → i ≤ n → St i s → (∃ l, At P w s.heap a l ∧ l.length ≤ i ∧ ∀ k, k ∈ l ↔ k ∈ xs.take i) →
      (∀ s' l, Moved (a :: wr) G s s' → At P w s'.heap a l → (∀ k, k ∈ l ↔ k ∈ xs) → l.length ≤ n → R (.ok (.ret .none)) s') →
      codeAny (model P w) A (.builtin "set.update.loop" ⟨[.ref a, .ref I], []⟩) R s := by
  have aw : a ∉ wr := fun q => ha (W.sub _ q)
  have ww : ∀ b ∈ wr, b ∈ a :: wr := fun b q => List.mem_cons_of_mem _ q
  intro m
  induction m with
  | zero =>
    intro i s em hi st ⟨l, hA, hl, mem⟩ hR
    obtain rfl : i = n := by omega
    refine codeAny_builtin F.entry_set_update_loop ?_
    rw [Around.under_plainId F.plain_set_update_loop _]
    show wpAny _ A.in1 (pyNext (.ref I) >>= _) _ _ s
    refine wpAny_bind (W.done s _ _ st fun s' mv => ?_)
    show wpAny _ A.in1 (ret Value.none) _ _ s'
    have et : xs.take i = xs := List.take_of_length_le (by omega)
    rw [et] at mem
    exact wpAny_pure (hR s' l (mv.mono ww) (hA.move fun o e => mv.heap a o aw e) mem hl)
  | succ m ih =>
    intro i s em hi st ⟨l, hA, hl, mem⟩ hR
    have lt : i < n := by omega
    refine codeAny_builtin F.entry_set_update_loop ?_
    rw [Around.under_plainId F.plain_set_update_loop _]
    show wpAny _ A.in1 (pyNext (.ref I) >>= _) _ _ s
    refine wpAny_bind (W.item i s _ _ lt st fun v s1 hP st1 mv => ?_)
    obtain ⟨k, t, hk, rfl⟩ := hv i v hP
    obtain ⟨D, hD, oD⟩ := hA.move (h' := s1.heap) fun o e => mv.heap a o aw e
    show wpAny _ A.in1 (holding [Value.str k t] (setAdd a (.str k t)) >>= _) _ _ s1
    refine wpAny_bind (wpAny_holding ?_)
    unfold setAdd
    refine wpAny_holding (wpAny_bind ((strKind P w).pyHash (k := k) (is_str k t) ?_))
    have tk : xs.take (i + 1) = xs.take i ++ [k] := by rw [List.take_add_one, hk] <;> rfl
    by_cases kl : k ∈ l
    · refine add_old (s := { s1 with toks := s1.toks + 1 }) hD oD.tx kl (by omega) ?_
      refine wpAny_pure ⟨plainId_quiet F.plain_set_update_loop _, ih (i + 1) _ (by omega) lt (W.frame _ s1 _ _ st1 (Nat.le_succ _) fun b _ o e => e) ⟨l, ⟨D, hD, oD⟩, by omega, fun j => ?_⟩ fun s2 l2 mv2 hA2 mem2 hl2 => ?_⟩
      · rw [tk, List.mem_append, List.mem_singleton, ← mem j]
        exact ⟨.inl, fun q => q.elim id fun e => e ▸ kl⟩
      · exact hR s2 l2 (Moved.trans W.gtrans ((mv.mono ww).then_heap (Nat.le_succ _) fun b o _ e => e) mv2) hA2 mem2 hl2
    · refine add_x (s := { s1 with toks := s1.toks + 1 }) hD oD.tx kl (by omega) ?_
      have hg : (s1.heap.update a (fun _ => sObj "set" (addTx (hashStr w k) (.str k t) D))).get? a = some (sObj "set" (addTx (hashStr w k) (.str k t) D)) := get_upd _ hD rfl
      have ot : ∀ b o, b ≠ a → s1.heap.get? b = some o → (s1.heap.update a (fun _ => sObj "set" (addTx (hashStr w k) (.str k t) D))).get? b = some o :=
        fun b o ne e => (Heap.get?_update_other _ _ (Ne.symm ne)).trans e
      refine wpAny_pure ⟨plainId_quiet F.plain_set_update_loop _, ih (i + 1) _ (by omega) lt (W.frame _ s1 _ _ st1 (Nat.le_succ _) fun b q o e => ?_) ⟨k :: l, ⟨_, hg, oD.add t kl⟩, by rw [List.length_cons]; omega, fun j => ?_⟩ fun s2 l2 mv2 hA2 mem2 hl2 => ?_⟩
      · exact ot b o (fun z => ha (z ▸ q)) e
      · rw [tk, List.mem_append, List.mem_singleton, ← mem j, List.mem_cons]
        exact Or.comm
      · refine hR s2 l2 (Moved.trans W.gtrans ((mv.mono ww).then_heap (Nat.le_succ _) fun b o q e => ?_) mv2) hA2 mem2 hl2
        exact ot b o (fun z => q (z ▸ List.mem_cons_self)) e
end

/-! ### set(v) -/
abbrev fresh (w : World) : Obj := { cls := .type "set", dict := none, data := .set #[] 0 (.fresh 0 0 (!w.params.followText "set-order")) }
theorem fresh_ok {P : Program} {w : World} : Ok P w (#[], 0, .fresh 0 0 (!w.params.followText "set-order")) [] where
  tx := TxOk.nil (by rfl)
  up := List.Pairwise.nil
  led := by
    show _ ∨ (!w.params.followText "set-order") = true
    cases w.params.followText "set-order"
    · exact .inr rfl
    · exact .inl rfl
  nd := List.nodup_nil
theorem at_fresh {P : Program} {w : World} {h : Heap} {a : Addr} (e : h.get? a = some (fresh w)) : At P w h a [] := ⟨(#[], 0, .fresh 0 0 (!w.params.followText "set-order")), e, fresh_ok⟩

section
variable {P : Program} {w : World} {A : Around} {E : Value → Shared → Prop} {s : Shared}
/-- what set(v) leaves: a new object, all else as it was -/
def Left (P : Program) (w : World) (s : Shared) (xs : List Str) (s' : Shared) : Prop :=
  ∃ h' tk l, s' = { s with heap := h', toks := tk } ∧ At P w h' s.heap.objs.size l ∧ (∀ k, k ∈ l ↔ k ∈ xs) ∧ l.length ≤ xs.length ∧ ∀ b o, s.heap.get? b = some o → h'.get? b = some o
set_option maxHeartbeats 4000000 in
theorem call_set_of {v : Value} {xs : List Str} {Q : Value → Shared → Prop}
    (hI : ∀ A' : Around, A'.handled = A.handled → wpAny (model P w) A' (Builtin.«set.__init__» ⟨[.ref s.heap.objs.size, v], []⟩) (fun f s2 => f = .done (.ret .none) ∧ Left P w s xs s2) E { s with heap := s.heap.push (fresh w) })
    (h : ∀ s', Left P w s xs s' → Q (.ref s.heap.objs.size) s') :
    wpAny (model P w) A (call (.type "set") [v]) Q E s := by
  obtain ⟨c, tl, hmro⟩ := F.called_set.mro
  have hmade := F.called_set.made
  have hsub := F.called_set.sub
  refine wpAny_call (codeAny_of_tree ?_)
  show wpAny _ _ (callAny (.type "set") _) _ _ _
  refine wpAny_pure ⟨Code.quiet_builtin _ (by decide +kernel), codeAny_builtin F.entry_type_call ?_⟩
  rw [Around.under_plain (weight_type_call_type "set" [v] []) rfl]
  have h1 := F.called_set.notType
  have h2 := F.called_set.canCreate
  have hct := F.typeCall_set_1 v
  repeat (any_goals (first | assumption | wp_step))
  refine codeAny_mono (code_set_led1 v (E := E) (Q₁ := fun obj s₁ => obj = .ref s.heap.objs.size ∧ s₁ = { s with heap := s.heap.push (fresh w) }) ⟨rfl, rfl⟩) fun r s₁ hr => ?_
  cases r with
  | error e => exact hr
  | ok fl =>
    cases fl with
    | ret obj =>
      obtain ⟨rfl, rfl⟩ := hr
      have hS : (s.heap.push (fresh w)).get? s.heap.objs.size = some (fresh w) := Heap.get?_push_size _ rfl
      have hT : Shared.TypeIs { s with heap := s.heap.push (fresh w) } (.ref s.heap.objs.size) "set" := ⟨_, hS, rfl⟩
      have hli := F.called_set.init.lookup
      have hbi := F.called_set.init.bind (.ref s.heap.objs.size)
      repeat (any_goals (first | assumption | wp_step))
      refine codeAny_mono (codeAny_call_builtin (R := wants (fun r s₂ => r = .none ∧ Left P w s xs s₂) E) F.called_set.init.plain F.entry_set_init (check_set_init_1 hT ?_)) fun r₂ s₂ hr₂ => ?_
      · refine wpAny_mono (hI A.in1.in1 (by simp)) (fun f s2 q => ?_) fun e s2 q => q
        obtain ⟨rfl, q⟩ := q
        exact ⟨rfl, q⟩
      · cases r₂ with
        | error e => exact hr₂
        | ok fl₂ =>
          cases fl₂ with
          | ret r =>
            obtain ⟨rfl, hL⟩ := hr₂
            repeat (any_goals (first | assumption | wp_step))
            exact h _ hL
          | _ => exact hr₂.elim
    | _ => exact hr.elim
theorem left_of {a : Addr} {wr : List Addr} {xs l : List Str} {s s1 s' : Shared} (ea : a = s.heap.objs.size) (hw : ∀ b ∈ wr, s.heap.objs.size ≤ b) (k1 : ∀ b o, s.heap.get? b = some o → s1.heap.get? b = some o)
    (eg : s1.gens = s.gens) (ed : s1.drawn = s.drawn) (eo : s1.os = s.os) (mv : Moved (a :: wr) (fun x y => y = x) s1 s') (hA : At P w s'.heap a l) (mem : ∀ k, k ∈ l ↔ k ∈ xs) (hl : l.length ≤ xs.length) : Left P w s xs s' := by
  obtain ⟨h', g', d', tk', os'⟩ := s'
  have e1 : g' = s.gens := mv.gens.trans eg
  have e2 : d' = s.drawn := mv.drawn.trans ed
  have e3 : os' = s.os := mv.os.trans eo
  subst e1 e2 e3 ea
  refine ⟨h', tk', l, rfl, hA, mem, hl, fun b o e => ?_⟩
  have lt : b < s.heap.objs.size := Heap.lt_size e
  refine mv.heap b o (fun z => ?_) (k1 b o e)
  rcases List.mem_cons.mp z with z | z
  · exact absurd z (Nat.ne_of_lt lt)
  · exact absurd (hw b z) (Nat.not_le_of_lt lt)
set_option maxHeartbeats 4000000 in
theorem init_list {l : Addr} {items : Array Value} {xs : List Str} (hh : A.handled = none) (hl : s.heap.IsList l items) (hi : StrsAre items.toList xs) (hb : xs.length + 1 < scanBound) :
    wpAny (model P w) A (Builtin.«set.__init__» ⟨[.ref s.heap.objs.size, .ref l], []⟩) (fun f s2 => f = .done (.ret .none) ∧ Left P w s xs s2) E { s with heap := s.heap.push (fresh w) } := by
  have hsz : xs.length = items.size := by rw [← StrsAre.len_eq hi, Array.length_toList]
  have hv : ∀ (i : Nat) (v : Value), items[i]? = some v → ∃ k t, xs[i]? = some k ∧ v = .str k t := fun i v q => by
    have hi' : i < xs.length := by rw [hsz]; exact (Array.getElem?_eq_some_iff.mp q).1
    obtain ⟨t, e⟩ := SS.strs_at hi i v (by rw [Array.getElem?_toList]; exact q)
    refine ⟨xs[i], t, List.getElem?_eq_getElem hi', ?_⟩
    rw [e, List.getD_eq_getElem?_getD, List.getElem?_eq_getElem hi'] <;> rfl
  have hS : (s.heap.push (fresh w)).get? s.heap.objs.size = some (fresh w) := Heap.get?_push_size _ rfl
  have hT : Shared.TypeIs { s with heap := s.heap.push (fresh w) } (.ref s.heap.objs.size) "set" := ⟨_, hS, rfl⟩
  obtain ⟨ol, hol, hcl, nl, hdl⟩ := id hl
  obtain ⟨ocls, odict, odata, oslots⟩ := ol
  simp only at hcl hdl
  subst hcl; subst hdl
  have hol1 : (s.heap.push (fresh w)).get? l = some { cls := .type "list", dict := odict, data := .seq items nl, slots := oslots } := Heap.get?_push_of_some _ hol
  have f1 := F.sub_list_set
  have f2 := F.sub_list_frozenset
  have f3 : (Value.type "list" == Value.type "dict") = false := by decide
  have hl1 : (s.heap.push (fresh w)).IsList l items := ⟨_, hol1, rfl, nl, rfl⟩
  have lS : l < s.heap.objs.size := Heap.lt_size hol
  have nI : l ≠ (s.heap.push (fresh w)).objs.size := by
    rw [Heap.size_push]
    exact Nat.ne_of_lt (Nat.lt_succ_of_lt lS)
  have nS : s.heap.objs.size ∉ [(s.heap.push (fresh w)).objs.size, l] := by
    rw [Heap.size_push]
    intro q
    rcases List.mem_cons.mp q with q | q
    · exact absurd q (Nat.ne_of_lt (Nat.lt_succ_self _))
    · exact absurd (List.mem_singleton.mp q) (Nat.ne_of_gt lS)
  have z1 : (s.heap.push (fresh w)).objs.size = s.heap.objs.size + 1 := Heap.size_push ..
  unfold Builtin.«set.__init__» noKeywords Builtin.Frozenset.updateFrom
  generalize ePI : pyIter = PI
  wp_walk
  subst ePI
  refine wpAny_pyIter_list hl1 ?_
  refine wpAny_bind (wpAny_runValue ?_)
  refine fill ((Walks.list (by simp [hh]) _ l nI items).toS) s.heap.objs.size nS xs hsz.symm hb hv (items.size - 0) 0 _ rfl (Nat.zero_le _)
    ⟨⟨_, Heap.get?_push_size _ rfl, rfl, rfl⟩, hl1.push _⟩ ⟨[], at_fresh (Heap.get?_push_of_some _ hS), Nat.le_refl _, fun k => by simp⟩ fun s' m mv hA mem hm => ?_
  show wpAny _ _ _ _ _ _
  refine wpAny_pure ?_
  show wpAny _ _ (ret Value.none) _ _ _
  refine wpAny_pure ⟨rfl, left_of (wr := [_]) rfl ?_ ?k1 ?e1 ?e2 ?e3 mv hA mem (by omega)⟩
  case k1 => exact fun b o e => Heap.get?_push_of_some _ (Heap.get?_push_of_some _ e)
  case e1 => rfl
  case e2 => rfl
  case e3 => rfl
  intro b q
  rw [List.mem_singleton.mp q]
  show _ ≤ (s.heap.push (fresh w)).objs.size
  rw [z1]
  exact Nat.le_succ _
set_option maxHeartbeats 4000000 in
theorem init_text {x : Str} {t : Tok} (hh : A.handled = none) (hb : x.length + 1 < scanBound) :
    wpAny (model P w) A (Builtin.«set.__init__» ⟨[.ref s.heap.objs.size, .str x t], []⟩) (fun f s2 => f = .done (.ret .none) ∧ Left P w s (x.cps.toList.map fun c => (⟨#[c]⟩ : Str)) s2) E { s with heap := s.heap.push (fresh w) } := by
  have hsz : (x.cps.toList.map fun c => (⟨#[c]⟩ : Str)).length = x.cps.size := by rw [List.length_map, Array.length_toList]
  have hx : x.length = x.cps.size := rfl
  have hv : ∀ (i : Nat) (v : Value), SignAt x i v → ∃ k t, (x.cps.toList.map fun c => (⟨#[c]⟩ : Str))[i]? = some k ∧ v = .str k t := fun i v ⟨c, u, q, e⟩ => by
    refine ⟨⟨#[c]⟩, u, ?_, e⟩
    rw [List.getElem?_map, Array.getElem?_toList, q] <;> rfl
  have hS : (s.heap.push (fresh w)).get? s.heap.objs.size = some (fresh w) := Heap.get?_push_size _ rfl
  have hT : Shared.TypeIs { s with heap := s.heap.push (fresh w) } (.ref s.heap.objs.size) "set" := ⟨_, hS, rfl⟩
  have hTx : Shared.TypeIs { s with heap := s.heap.push (fresh w) } (.str x t) "str" := typeIs_str _ x t
  have f1 := PySem.F.sub_str_set
  have f2 := PySem.F.sub_str_frozenset
  have f3 : (Value.type "str" == Value.type "dict") = false := by decide
  have z1 : (s.heap.push (fresh w)).objs.size = s.heap.objs.size + 1 := Heap.size_push ..
  unfold Builtin.«set.__init__» noKeywords Builtin.Frozenset.updateFrom
  generalize ePI : pyIter = PI
  wp_walk
  subst ePI
  refine wpAny_pyIter_str fun o St W st => ?_
  refine wpAny_bind (wpAny_runValue ?_)
  refine fill ((W _ (by simp [hh])).toS) s.heap.objs.size (by rw [z1]; simp) _ hsz.symm (by rw [hsz, ← hx]; exact hb) hv (x.cps.size - 0) 0 _ rfl (Nat.zero_le _)
    st ⟨[], at_fresh (Heap.get?_push_of_some _ hS), Nat.le_refl _, fun k => by simp⟩ fun s' m mv hA mem hm => ?_
  show wpAny _ _ _ _ _ _
  refine wpAny_pure ?_
  show wpAny _ _ (ret Value.none) _ _ _
  refine wpAny_pure ⟨rfl, left_of (wr := [_]) rfl ?_ ?k1 ?e1 ?e2 ?e3 mv hA mem (by rw [hsz]; exact hm)⟩
  case k1 => exact fun b o e => Heap.get?_push_of_some _ (Heap.get?_push_of_some _ e)
  case e1 => rfl
  case e2 => rfl
  case e3 => rfl
  intro b q
  rw [List.mem_singleton.mp q]
  show _ ≤ (s.heap.push (fresh w)).objs.size
  rw [z1]
  exact Nat.le_succ _

/-! ### sorted(set) -/
theorem texts_of {es : List (Int × Value)} (el : ElemsOf (strKind P w) es) : ∀ vs : List Value, (∀ v ∈ vs, v ∈ es.map (·.2)) → ∃ ks : List Str, StrsAre vs ks ∧ (∀ k, k ∈ ks ↔ ∃ v ∈ vs, (strKind P w).is k v = true) ∧ ks.length = vs.length
  | [], _ => ⟨[], .nil, fun k => by simp, rfl⟩
  | v :: vs, h => by
    obtain ⟨ks, h1, h2, h3⟩ := texts_of el vs fun u q => h u (List.mem_cons_of_mem _ q)
    obtain ⟨e, he, ev⟩ := List.mem_map.mp (h v List.mem_cons_self)
    obtain ⟨⟨k, hk, _⟩, _⟩ := el e he
    rw [ev] at hk
    obtain ⟨t, rfl⟩ := Value.isStrOf_shape hk
    refine ⟨k :: ks, .cons k t h1, fun j => ?_, by rw [List.length_cons, List.length_cons, h3]⟩
    rw [List.mem_cons, h2 j]
    constructor
    · rintro (q | ⟨u, hu, q⟩)
      · exact ⟨_, List.mem_cons_self, by rw [q]; exact hk⟩
      · exact ⟨u, List.mem_cons_of_mem _ hu, q⟩
    · rintro ⟨u, hu, q⟩
      rcases List.mem_cons.mp hu with z | z
      · rw [z] at q
        exact .inl ((strKind P w).inj _ _ _ q hk)
      · exact .inr ⟨u, z, q⟩
theorem sorted_at {a : Addr} {l : List Str} {Q : Value → Shared → Prop} (R : At P w s.heap a l) (hh : A.handled = none) (h64 : l.length < 64)
    (hQ : ∀ s' p (out : Array Value) (c : Nat) (ys : List Str), (∀ b o, s.heap.get? b = some o → s'.heap.get? b = some o) → s'.gens = s.gens → s'.os = s.os → s.heap.objs.size ≤ p →
      s'.heap.get? p = some (seqObj "list" out c) → StrsAre out.toList ys → ys.Perm l → sortedS ys = true → Q (.ref p) s') :
    wpAny (model P w) A (call (.builtin "sorted") [.ref a]) Q E s := by
  obtain ⟨⟨es, ep, t⟩, ho, ok⟩ := R
  have ft : t.fits es.size = true := ok.tx.fit
  have z : es.size = l.length := ok.tx.sz
  have sb : es.size < scanBound := by
    unfold scanBound
    omega
  refine Calls.call_function_entry kind_sorted plain_sorted entry_sorted (args_sorted1 _) ?_
  unfold Builtin.«sorted»
  refine wpAny_bind (m := checkCount "sorted" 1 1 _) (wpAny_pure ?_)
  refine wpAny_bind (collect_set (A := A.in1) hh ⟨_, ho, rfl, rfl⟩ ft sb ok.up ok.led fun s1 vs k1 hz g1 o1 pm => ?_)
  obtain ⟨ks, hS, mem, hlen⟩ := texts_of ok.tx.el vs fun v hv => pm.mem_iff.mp hv
  have vl : vs.length = l.length := by rw [pm.length_eq, List.length_map, Array.length_toList]; exact z
  have pk : ks.Perm l := perm_of_sub l ks ok.nd (fun k hk => by
    obtain ⟨e, he, q⟩ := (ok.tx.mem k).mp hk
    exact (mem k).mpr ⟨e.2, pm.mem_iff.mpr (List.mem_map.mpr ⟨e, he, rfl⟩), q⟩) (by omega)
  refine wpAny_bind (wpAny_newList ?_ (by rw [vl, sizeLine_eq]; omega))
  have hoL : (s1.heap.push (seqObj "list" vs.toArray 0)).get? s1.heap.objs.size = some (seqObj "list" vs.toArray 0) := Heap.get?_push_size _ rfl
  refine wpAny_bind (wpAny_holding (wpAny_call_entry slot_list_sort ⟨_, hoL, rfl⟩ entry_list_sort
    (list_sort_treeK strKind_oneLt hoL hS.keysOf (fun v₁ v₂ rest e => keyKind_strs (by rw [← e]; exact hS)) (by rw [vl]; exact h64) fun st' hp hs => ?_) (args_list_sort _)))
  obtain ⟨ys, y1, y2, y3⟩ := sorted_out_str hS hp hs
  obtain ⟨c, hc⟩ := sortedHeap_at (vs := vs) (out := Array.map (fun x => x.snd) (arrOf st')) hoL
  refine ⟨_, rfl, wpAny_pure ⟨_, rfl, hQ _ s1.heap.objs.size _ c ys (fun b u e => ?_) g1 o1 hz hc y1 (y2.trans pk) y3⟩⟩
  have q := k1 b u e
  have lt := Heap.lt_size q
  show (sortedHeap (s1.heap.push (seqObj "list" vs.toArray 0)) s1.heap.objs.size vs _).get? b = some u
  rw [sortedHeap_old (Nat.ne_of_lt lt) (by rw [Heap.size_push]; exact Nat.lt_succ_of_lt lt)]
  exact Heap.get?_push_of_some _ q
end

/-! ### over the layer -/
def SetTx (P : Program) (w : World) (a : Addr) (l : List Str) : HO := .ext fun h => At P w h a l
theorem setTx_new {P : Program} {w : World} {H : Hp} {h : Heap} {a : Addr} {l : List Str} (R : At P w h a l) : ObjOk P w H h a (SetTx P w a l) := by
  have ⟨D, hD, _⟩ := R
  exact ⟨R, ⟨_, hD⟩, fun h1 h2 p k => At.move p k⟩
section
variable {X : Cx}
/-- set(xs), xs a list of texts -/
def rSetL (K : PySem.W.Frag) (P : Program) (w : World) : List V → Hp → VK → Prop := fun xs H Q => ∃ (l : Addr) (ss : List Str), xs = [V.ref l] ∧ SqL K H l (ss.map V.str) ∧ ss.length + 1 < scanBound ∧
  ∀ (a : Addr) (ls : List Str), H a = none → ls.Nodup → (∀ k, k ∈ ls ↔ k ∈ ss) → ls.length ≤ ss.length → Q (.ref a) (upd H a (SetTx P w a ls))
theorem At.nd {P : Program} {w : World} {h : Heap} {a : Addr} {l : List Str} (x : At P w h a l) : l.Nodup := by
  obtain ⟨D, _, o⟩ := x
  exact o.nd
theorem cr_setL (hc : X.calm = true) : CallR X (.type "set") (rSetL X.K X.prog X.w) := by
  intro pins s σ H xs us Q I r h
  obtain ⟨l, ss, rfl, hs, hb, q⟩ := h
  obtain ⟨its, rv, hl, _⟩ := I.list hs
  rw [Vals.ref1 r]
  have hn : H s.heap.objs.size = none := I.hok.fresh (Nat.le_refl _)
  refine call_set_of (xs := ss) (fun A' e => init_list (e.trans (I.ok.hd hc)) hl.isList rv.strs hb) fun s' L => ?_
  obtain ⟨h', tk, ls, rfl, hA, mem, hlen, kp⟩ := L
  exact ⟨.ref s.heap.objs.size, upd H s.heap.objs.size (SetTx X.prog X.w s.heap.objs.size ls), I.laid (t' := tk) kp (Nat.le_refl _) (setTx_new hA), rfl, q _ ls hn hA.nd mem hlen⟩
def signs (x : Str) : List Str := x.cps.toList.map fun c => (⟨#[c]⟩ : Str)
/-- set(x), x a text -/
def rSetT (P : Program) (w : World) : List V → Hp → VK → Prop := fun xs H Q => ∃ (x : Str), xs = [V.str x] ∧ x.length + 1 < scanBound ∧
  ∀ (a : Addr) (ls : List Str), H a = none → ls.Nodup → (∀ k, k ∈ ls ↔ k ∈ signs x) → ls.length ≤ x.length → Q (.ref a) (upd H a (SetTx P w a ls))
theorem cr_setT (hc : X.calm = true) : CallR X (.type "set") (rSetT X.prog X.w) := by
  intro pins s σ H xs us Q I r h
  obtain ⟨x, rfl, hb, q⟩ := h
  obtain ⟨t, rfl⟩ : ∃ t, us = [Value.str x t] := by
    cases r with
    | cons r1 r2 =>
      cases r2
      obtain ⟨t, rfl⟩ := r1
      exact ⟨t, rfl⟩
  have hn : H s.heap.objs.size = none := I.hok.fresh (Nat.le_refl _)
  refine call_set_of (xs := x.cps.toList.map fun c => (⟨#[c]⟩ : Str)) (fun A' e => init_text (e.trans (I.ok.hd hc)) hb) fun s' L => ?_
  obtain ⟨h', tk, ls, rfl, hA, mem, hlen, kp⟩ := L
  rw [List.length_map, Array.length_toList] at hlen
  exact ⟨.ref s.heap.objs.size, upd H s.heap.objs.size (SetTx X.prog X.w s.heap.objs.size ls), I.laid (t' := tk) kp (Nat.le_refl _) (setTx_new hA), rfl, q _ ls hn hA.nd mem hlen⟩
/-- sorted(found) of texts, fewer than 64 -/
def rSortTx (P : Program) (w : World) : List V → Hp → VK → Prop := fun vs H Q => ∃ (a : Addr) (l : List Str), vs = [V.ref a] ∧ H a = some (SetTx P w a l) ∧ l.length < 64 ∧
  ∀ (ys : List Str) (p : Addr), ys.Perm l → sortedS ys = true → H p = none → Q (.ref p) (upd H p (.lst (ys.map V.str)))
theorem cr_sortTx (hc : X.calm = true) : CallR X (.builtin "sorted") (rSortTx X.prog X.w) := by
  intro pins s σ H vs us Q I r h
  obtain ⟨a, l, rfl, ha, h64, q⟩ := h
  have R : At X.prog X.w s.heap a l := (I.hok a _ ha).1
  rw [Vals.ref1 r]
  refine sorted_at R (I.ok.hd hc) h64 fun s' p out c ys k g o hp hg hi pm so => ?_
  have hlen : (ys.map V.str).length ≤ sizeLine := by
    rw [List.length_map, pm.length_eq, sizeLine_eq]
    omega
  have hn : H p = none := I.hok.fresh hp
  have J : Inv X pins σ (upd H p (.lst (ys.map V.str))) { s with heap := s'.heap, gens := s'.gens, drawn := s'.drawn, toks := s'.toks } :=
    I.call (ch := []) (Un.laid k hp hn) (I.hok.laid k hp ⟨hlen, out.toList, c, vals_of_strs hi, hg⟩) (by rw [g]; exact I.bare) (fun _ z => nomatch z)
  have e : s' = { s with heap := s'.heap, gens := s'.gens, drawn := s'.drawn, toks := s'.toks } := by
    cases s'
    cases s
    cases o
    rfl
  rw [e]
  exact ⟨.ref p, _, J, rfl, q ys p pm so hn⟩
end
end TX
namespace DW
open PySem PySem.Spec PyProof.Rows L2
def topS (i : Nat) : Stmt := PySem.Challenge.pw_downwords_k03_minimal_words.main.body.getD i (.Pass ⟨0, 0, 0, 0⟩)
abbrev sFirstPositions : Stmt := topS 1
abbrev sIsSubword : Stmt := topS 2
abbrev sHasProperSubword : Stmt := topS 3
abbrev sInShortlexOrder : Stmt := topS 4
abbrev sMinimalWords : Stmt := topS 5
abbrev sBegin : Stmt := topS 7
abbrev sDraw : Stmt := topS 8
abbrev sPick : Stmt := topS 9
abbrev sAlpha : Stmt := topS 10
abbrev sWord : Stmt := topS 11
abbrev sLIsSubword : Stmt := topS 12
abbrev sLaw : Stmt := topS 13
end DW
/-! The law's own def, run where nothing is being shown (no guard stands): repr of lists and tuples there. -/
namespace GA
open PySem PySem.Spec PyProof.Rows L2
/-- the def keeps its promise when the law's caller calls it -/
structure FnAt (P : Program) (w : World) (K : PySem.W.Frag) (mg : Str → Option Value) (base : Heap) (f : Addr) (fd : FuncData) (ps : List Str) (sp : Sp) : Prop where
  run : ∀ (s : Shared) (H : Hp) (args : Args) (us : List Value) (vs : List V) (Q : VK) (E : XK), Env0 P w K mg base callerA [] s H → BindsTo s fd args (ps.zip us) → Vals vs us → sp vs H Q E →
    codeAny (model P w) callerA (.call (.ref f) args) (CR CX0 [] P w H s Q E) s
section
variable {P : Program} {w : World} {K : PySem.W.Frag} {mg : Str → Option Value} {base : Heap} {x qual : Str} {params : Arguments} {body : List Stmt} {scope : Scope} {dvs : List V} {kws : List (Str × V)} {f : Addr} {fd : FuncData}
theorem okAt {N ps : List Str} {k : Nat} {sp : Sp} (F : FunD K x qual params body scope dvs kws f fd) (S : FnScope N ps scope) (hR : Room (k + 1) callerA) (len : ∀ vs H Q E, sp vs H Q E → vs.length = ps.length)
    (bd : ∀ (cdv : Value) (s : Shared) (H : Hp) (vs : List V) (Q : VK) (E : XK), Room k (callerA.deeper (envOfC qual scope s.heap.objs.size f cdv)) → sp vs H Q E →
      ∃ t, PSs (cxOf CX0 P w K mg base N qual scope f cdv callerA [] s H E) body t ∧ t { nx := fun _ H' => Q .non H', rt := Q } (start N vs) H) : FnAt P w K mg base f fd ps sp := by
  obtain ⟨oc, od, dV, kV, doc, pm, an, cdv, ct, osl, rfl, lk, hcd, _, _⟩ := F.ex
  refine ⟨fun s H args us vs Q E e0 hb r hsp => ?_⟩
  have vl := len _ _ _ _ hsp
  have kx : K.In s.heap := e0.mod.kin.keeps fun b o e => (e0.bs b o e).1
  have nl : s.heap.NoLimit := e0.mod.nolimit.keeps fun b o e => (e0.bs b o e).1
  have kinds : ∀ y ∈ ps.zip us, scope.names.lookup y.1 = some .local ∨ (scope.names.lookup y.1 = some .cell ∧ ((cellsFrom (s.heap.objs.size + 1) scope.names []).lookup y.1).isSome = true) := by
    rintro ⟨y1, y2⟩ hy
    rcases S.par y1 (List.of_mem_zip hy).1 with q | q
    · left; exact q
    · right; exact ⟨q, PySem.W.cellsFrom_some _ _ _ (.inl q)⟩
  refine codeAny_call_function hR.depth (kx _ _ lk) rfl S.co S.gen rfl (PySem.W.codeRec_of kx hcd) (hb _ _ _ _ ?_)
  refine wpAny_newFunctionEnv_cells S.kind kinds fun env ee s1 ic => ?_
  subst ee
  refine ⟨nl.keeps ic.toInCall.keep, codeAny_func ?_⟩
  obtain ⟨t, pt, rd⟩ := bd cdv s H vs Q E (hR.deeper _) hsp
  have iv : L2.Inv (cxOf CX0 P w K mg base N qual scope f cdv callerA [] s H E) [] (start N vs) H s1 := inv_start S hR.hd e0 vl r ic
  refine wpAny_mono (pt.run [] s1 (start N vs) H _ iv rd) (fun fl s2 q => ?_) fun e s2 q => q
  have out : ∀ {σ2 : L2.St} {H2 : Hp} {a : V} {u : Value}, L2.Inv (cxOf CX0 P w K mg base N qual scope f cdv callerA [] s H E) [] σ2 H2 s2 → RelV a u → Q a H2 → CE [] P w H s Q u s2 := by
    intro σ2 H2 a u J ra qa
    exact ⟨a, H2, J.os, J.bare, J.base, J.hok, ra, qa⟩
  cases fl with
  | ret u =>
    obtain ⟨a, σ2, H2, J, ra, qa⟩ := q
    exact out J ra qa
  | next =>
    obtain ⟨σ2, H2, J, qa⟩ := q
    exact out (a := V.non) (u := Value.none) J rfl qa
  | brk =>
    obtain ⟨_, _, _, z⟩ := q
    exact z.elim
  | cont =>
    obtain ⟨_, _, _, z⟩ := q
    exact z.elim
end
/-- the law's call -/
theorem lawAt {P : Program} {w : World} {K : PySem.W.Frag} {mg mb : Str → Option Value} {fa a : Addr} {fd : FuncData} {x : Str} {sp : Sp} {s₁ : Shared} {vs : List Value} {ns : List Int}
    (kx : K.In s₁.heap) (hn : s₁.heap.Ns mainGlobals mg) (hb : s₁.heap.Ns builtinsNs mb) (hbb : ∀ y : Str, y ≠ "__name__" → mb y = bootBuiltins y) (lim : s₁.heap.NoLimit) (hg : s₁.gens = #[])
    (ha : s₁.heap.get? a = some { cls := .type "list", data := .seq vs.toArray }) (hi : IntsAre vs ns) (hl : ns.length ≤ sizeLine)
    (F : ∀ base : Heap, K.In base → base.Ns mainGlobals mg → FnAt P w K mg base fa fd [x] sp) (bd : ∀ (s : Shared) (u : Value), BindsTo s fd ⟨[u], []⟩ [(x, u)])
    (hsp : ∀ H : Hp, Only H → SqL K H a (ns.map V.int) → sp [.ref a] H (fun v _ => v = .bl true) fun _ _ _ => False) :
    codeAny (model P w) callerA (.call (.ref fa) ⟨[.ref a], []⟩) (fun r s' => r = .ok (.ret (.bool true)) ∧ OldK s₁.heap s'.heap ∧ s'.os = s₁.os ∧ AllBare s'.gens) s₁ := by
  have rel := vals_ints hi
  have lenV := hi.length
  have main : ∀ H : Hp, Only H → SqL K H a (ns.map V.int) → HOk P w H s₁.heap → (∀ b, H b ≠ none → b = a) → (H a ≠ none → K.lookup a = none) →
      codeAny (model P w) callerA (.call (.ref fa) ⟨[.ref a], []⟩) (fun r s' => r = .ok (.ret (.bool true)) ∧ OldK s₁.heap s'.heap ∧ s'.os = s₁.os ∧ AllBare s'.gens) s₁ := by
    intro H only sq ok onlyA notK
    have low : ∀ {b : Addr} {o : Obj}, s₁.heap.get? b = some o → H b = none → (hidT s₁.heap H).get? b = some o := fun e z => hidT_get e z
    have noD : ∀ {b : Addr} {o : Obj} {es : Array DictEntry} {ep : Nat}, s₁.heap.get? b = some o → o.data = .dict es ep → H b = none := by
      intro b o es ep e d
      cases q : H b with
      | none => rfl
      | some u =>
        have eb := onlyA b (by rw [q]; simp)
        subst eb
        rw [ha] at e
        cases e
        cases (show Data.seq vs.toArray _ = Data.dict es ep from d)
    have nsL : ∀ {b : Addr} {m : Str → Option Value}, s₁.heap.Ns b m → (hidT s₁.heap H).Ns b m := by
      rintro b m ⟨o, es, ep, e, d, r⟩
      exact ⟨o, es, ep, low e (noD e d), d, r⟩
    have kb : K.In (hidT s₁.heap H) := fun b o e => low (kx b o e) (by
      cases q : H b with
      | none => rfl
      | some u =>
        have eb := onlyA b (by rw [q]; simp)
        subst eb
        have z := notK (by rw [q]; simp)
        rw [z] at e
        cases e)
    have hM : Mod K mg (hidT s₁.heap H) := ⟨kb, nsL hn, ⟨mb, nsL hb, hbb⟩, by
      obtain ⟨mc, z1, z2⟩ := lim
      exact ⟨mc, nsL z1, z2⟩⟩
    have e0 : Env0 P w K mg (hidT s₁.heap H) callerA [] s₁ H := ⟨rfl, hM, fun b o e => of_hidT e, Nat.le_of_eq (hidT_size _ _), trivial, fun b q => absurd (show b ∈ ([] : List Addr) from q) (by simp), ok, .of_eq hg⟩
    refine codeAny_mono ((F _ kb (nsL hn)).run s₁ H ⟨[.ref a], []⟩ [.ref a] [.ref a] _ _ e0 (bd s₁ (.ref a)) (.cons rfl .nil) (hsp H only sq)) fun r s2 h => ?_
    cases r with
    | error e => exact (show False from h).elim
    | ok fl =>
      cases fl with
      | next => exact (show False from h).elim
      | brk => exact (show False from h).elim
      | cont => exact (show False from h).elim
      | ret u =>
        obtain ⟨v, H2, os, bare, un, ok2, rv, qv⟩ := h
        obtain rfl : v = .bl true := qv
        obtain rfl : u = Value.bool true := rv
        refine ⟨rfl, OldK.of_keep fun b o e => ?_, os, bare⟩
        cases q : H b with
        | none => exact un.keep b o e q (fun z => absurd (show b ∈ ([] : List Addr) from z) (by simp)) (by simp)
        | some u =>
          rcases only b with z | ⟨ob, xs, z⟩
          · rw [q] at z
            cases z
          · have z2 := un.frzs b ob _ z
            obtain ⟨e1, _⟩ := ok b _ z
            obtain ⟨e2, _⟩ := ok2 b _ z2
            rw [e] at e1
            cases e1
            exact e2
  cases hk : K.lookup a with
  | some o =>
    have e := kx a o hk
    rw [ha] at e
    cases e
    exact main (fun _ => none) (fun _ => .inl rfl) (.inr ⟨_, vs.toArray, _, hk, rfl, rfl, rfl, by rw [List.size_toArray, lenV]; exact hl, by simpa using rel⟩) (fun b u z => by cases (show (none : Option HO) = some u from z)) (fun b z => absurd rfl z) fun z => absurd rfl z
  | none =>
    refine main (fun b => if b = a then some (.frz { cls := .type "list", data := .seq vs.toArray } (.lst (ns.map V.int))) else none) (fun b => ?_) (.inl (.inr ⟨{ cls := .type "list", data := .seq vs.toArray }, if_pos rfl⟩)) (fun b u z => ?_) (fun b z => ?_) fun _ => hk
    · by_cases c : b = a
      · exact .inr ⟨_, _, if_pos c⟩
      · exact .inl (if_neg c)
    · by_cases c : b = a
      · have y := (if_pos c).symm.trans z
        cases y
        subst c
        exact ⟨ha, by rw [List.length_map]; exact hl, vs, _, rel, ha⟩
      · have y := (if_neg c).symm.trans z
        cases y
    · by_cases c : b = a
      · exact c
      · exact absurd (if_neg c) z
/-- the end of a law by such a promise -/
theorem walkAt {l : PySem.W.OpenLaw} {n : Nat} {q : Program} {loose : List Str} {XP : (Str → Option Value) → Heap → Prop} {YP : World → Heap → Prop} {d : DefRec} {x : Str}
    (hn : l.most = some n) (hn2 : n ≤ sizeLine) (hdf : d.params.defaults = [])
    (F : ∀ (w : World) (mg : Str → Option Value) (fa : Addr) (h : Heap), YP w h → h.Ns mainGlobals mg → mg d.name = some (.ref fa) →
      ∃ (K : PySem.W.Frag) (fd : FuncData) (sp : Sp), K.In h ∧ (∀ (s : Shared) (u : Value), BindsTo s fd ⟨[u], []⟩ [(x, u)]) ∧
        (∀ (H : Hp) (a : Addr) (ns : List Int), ns.length ≤ n → Only H → SqL K H a (ns.map V.int) → sp [.ref a] H (fun v _ => v = .bl true) fun _ _ _ => False) ∧
        ∀ base : Heap, K.In base → base.Ns mainGlobals mg → FnAt l.prog w K mg base fa fd [x] sp) :
    PySem.W.WalkO q loose XP YP l.row.toRowW d [] (fun f vs => PySem.call f vs) := by
  refine Att.attach_call hn hdf fun w s₀ s₁ mg mb fa o pm cd doc a vs ns G Y ho hd hcd hmg hobj hints hlen hg => ?_
  obtain ⟨K, fd, sp, kx, hb, hsp, hF⟩ := F w mg fa _ Y G.T.g hmg
  exact lawAt kx G.T.g G.T.b G.T.builtins G.T.nolimit hg hobj hints (Nat.le_trans hlen hn2) hF hb fun H only sq => hsp H a ns hlen only sq
/-! ### repr of what is read as data -/
section
variable {X : Cx}
theorem cr_reprD (hg : X.A.guards = some []) (hu : X.A.units + 66 < cLine) : CallR X (.builtin "repr") (fun xs H Q => ∃ (a : Addr) (d : PyData), xs = [.ref a] ∧ Dp X.K H (.ref a) d ∧ d.showable = true ∧ d.hasDict = false ∧ d.depth ≤ 64 ∧ d.shown.length ≤ sizeLine ∧ Q (.str d.shown) H) := by
  intro pins s σ H xs us Q I r h
  obtain ⟨a, d, rfl, hd, sh, nd, dp, sz, q⟩ := h
  rw [Vals.ref1 r]
  obtain ⟨as, rd⟩ := Dp.reads I d _ _ hd rfl
  refine repr_of_reads' rd sh (fun z => by rw [nd] at z; cases z) hg (by omega) (fun b o e => e) (fun h' u tk kp => ?_) sz
  exact ⟨.str d.shown, H, I.kept (t' := tk) kp, ⟨_, rfl⟩, q⟩
theorem cr_reprN : CallR X (.builtin "repr") (fun xs H Q => xs = [.non] ∧ Q (.str "None") H) := by
  intro pins s σ H xs us Q I r h
  obtain ⟨rfl, q⟩ := h
  obtain ⟨u, rfl, ru⟩ := vals1 r
  cases ru
  exact PySem.P.repr_of_none ⟨.str _, H, I.tok _, ⟨_, rfl⟩, q⟩
end
end GA
/-! sorted(xs, key=len) of a list of texts -/
namespace SL
open PySem PySem.Spec PyProof.Rows L2 PySem.W
def leLen : Str → Str → Bool := dataLe false fun x : Str => PyData.int (x.length : Int)
def byLen (xs : List Str) : List Str := xs.mergeSort leLen
def TxtV (v : Value) (x : Str) : Prop := ∃ t, v = Value.str x t
theorem each_of : ∀ {us : List Value} {xs : List Str}, StrsAre us xs → EachIs TxtV us xs
  | _, _, .nil => .nil
  | _, _, .cons n t r => .cons ⟨t, rfl⟩ (each_of r)
theorem vals_of : ∀ {us : List Value} {xs : List Str}, EachIs TxtV us xs → Vals (xs.map V.str) us
  | _, _, .nil => .nil
  | _, _, .cons h r => .cons h (vals_of r)
def tSortLen (K : PySem.W.Frag) (t : TA) : TE := fun σ H Q => t σ H fun vs H1 => ∃ (l : Addr) (xs : List Str), vs = [.ref l] ∧ SqL K H1 l (xs.map V.str) ∧ (∀ x ∈ xs, x.length ≤ sizeLine) ∧ xs.length ≤ sizeLine ∧ ∀ p, H1 p = none → Q (.ref p) (upd H1 p (.lst ((byLen xs).map V.str)))
section
variable {X : Cx} {p p2 pos kpos : Pos} {e : Expr} {t : TA}
theorem pe_sortedLen (hu : X.A.units + 66 < cLine) (hgs : Gl X "sorted") (hms : X.mg "sorted" = none) (hgl : Gl X "len") (hml : X.mg "len" = none) (ha : PA X [e] t)
    (he : backTo pos (starEach [e] X.env) = (false, eval e X.env) :: backTo pos (starEach [] X.env) := by rfl) (hpl : (backTo pos (starEach [e] X.env)).any (·.1) = false := by rfl) :
    PE X (.Call (.Name "sorted" p) [e] [⟨some "key", .Name "len" p2, kpos⟩] pos) (tSortLen X.K t) := by
  refine ⟨fun pins s σ H Q I h => ?_⟩
  refine wpAny_Call_Name_kw (ld_blt I hgs hms (u := .builtin "sorted") (by decide +kernel) ?_)
  refine PyProof.Rows.callWith_kw (thn (ha.run pos pins s σ H _ I h) fun us s1 ⟨vs, H1, I1, r1, q1⟩ => ?_) he hpl (by rfl) (by rfl)
  show wpAny _ _ (evalAll [do let v ← eval (.Name "len" p2) X.env; standAt pos; pure v]) _ _ s1
  refine wpAny_evalAll_cons (wpAny_bind (ld_blt I1 hgl hml PySem.boot_len (wpAny_bind (wpAny_standAt (wpAny_pure (wpAny_evalAll_nil ?_))))))
  obtain ⟨l, xs, rfl, hs, hx, hL, q⟩ := q1
  obtain ⟨its, rv, hl, _⟩ := I1.list hs
  rw [Vals.ref1 r1]
  show wpAny _ _ (call (.builtin "sorted") [.ref l] [(Str.ofString "key", .builtin "len")]) _ _ _
  have ei := each_of rv.strs
  refine sorted_key_data (b := false) (fun x : Str => PyData.int (x.length : Int)) hl.isList ei ?_ ?_ hL (fun x _ => ?_) (ksk_s1 _ _) (fun _ => ksk_l1 _ _) (fun _ => ksk_t4 _ _) (fun v x hR hm h tk kp => ?_) fun out c h' tk kp _ hD hlen eo => ?_
  · intro d hd d' hd'
    obtain ⟨a, _, rfl⟩ := List.mem_map.mp hd
    obtain ⟨b, _, rfl⟩ := List.mem_map.mp hd'
    simp [alike]
  · refine .inr fun d hd => ?_
    obtain ⟨a, _, rfl⟩ := List.mem_map.mp hd
    exact ⟨by simp, fun ys => by simp⟩
  · show _ + 2 + (PyData.int _).depth < _
    simp only [PyData.depth]
    omega
  · obtain ⟨u, rfl⟩ := hR
    have hn := line63
    have hxl := hx x hm
    exact len_str (by omega) ⟨h, _, rfl, fun b o q => q, .int _ _⟩
  · have hn : H1 (s1.heap.objs.size + 1) = none := I1.hok.fresh (Nat.le_succ _)
    have bl : ((byLen xs).map V.str).length ≤ sizeLine := by
      rw [List.length_map]
      unfold byLen
      rw [List.length_mergeSort]
      exact hL
    refine ⟨.ref _, upd H1 (s1.heap.objs.size + 1) (.lst ((byLen xs).map V.str)), I1.laid (t' := tk) kp (Nat.le_succ _) ⟨bl, out, c, vals_of eo, hD⟩, rfl, q _ hn⟩
end
end SL
namespace DW
open PySem PySem.Spec PyProof.Rows L2
/-! ### a def that stands in the module -/
structure Df (K : PySem.W.Frag) (mg : Str → Option Value) (x : Str) (st : Stmt) (ps : List Str) where
  f : Addr
  fd : FuncData
  F : FunD K x x (defArgs st) (defBody st) (defScope st) [] [] f fd
  g : mg x = some (.ref f)
  b : Binds K fd ps []
/-! ### heaps: all but the tape stays -/
structure Kp (t : Addr) (H H' : Hp) : Prop where
  old : ∃ kvs, H t = some (.dK kvs)
  new : ∃ kvs, H' t = some (.dK kvs)
  oth : ∀ b o, b ≠ t → H b = some o → H' b = some o
theorem Kp.trans {t : Addr} {H H1 H2 : Hp} (a : Kp t H H1) (b : Kp t H1 H2) : Kp t H H2 := ⟨a.old, b.new, fun c o n e => b.oth c o n (a.oth c o n e)⟩
theorem Kp.of {t : Addr} {H H' : Hp} {kvs : List (Key × V)} (e : H t = some (.dK kvs)) (s : Same H H') : Kp t H H' := ⟨⟨_, e⟩, ⟨_, s _ _ e⟩, fun b o _ h => s b o h⟩
theorem Kp.at {t b : Addr} {H H' : Hp} {o : HO} (k : Kp t H H') (h : H b = some o) (n : ∀ kvs, o ≠ .dK kvs) : H' b = some o := by
  obtain ⟨kvs, e⟩ := k.old
  exact k.oth b o (fun z => by
    subst z
    rw [e] at h
    exact n kvs (Option.some.inj h).symm) h
theorem Kp.lst {t b : Addr} {H H' : Hp} {xs : List V} {K : PySem.W.Frag} (k : Kp t H H') (h : SqL K H b xs) : SqL K H' b xs := by
  rcases h with (h | ⟨o, h⟩) | h
  · exact .inl (.inl (k.at h fun _ z => by cases z))
  · exact .inl (.inr ⟨o, k.at h fun _ z => by cases z⟩)
  · exact .inr h
theorem Kp.tup {t b : Addr} {H H' : Hp} {xs : List V} {K : PySem.W.Frag} (k : Kp t H H') (h : SqT K H b xs) : SqT K H' b xs := by
  rcases h with (h | ⟨o, h⟩) | h
  · exact .inl (.inl (k.at h fun _ z => by cases z))
  · exact .inl (.inr ⟨o, k.at h fun _ z => by cases z⟩)
  · exact .inr h
theorem same_upd {H : Hp} {p : Addr} {o : HO} (h : H p = none) : Same H (upd H p o) := fun b x e => by
  rw [upd_ne (ne_of_none e h)]
  exact e
theorem Kp.gone {t b : Addr} {H H' : Hp} (k : Kp t H H') (h : H' b = none) : H b = none := by
  cases q : H b with
  | none => rfl
  | some o =>
    by_cases e : b = t
    · obtain ⟨kvs, z⟩ := k.new
      rw [e, z] at h
      cases h
    · rw [k.oth b o e q] at h
      cases h
/-! ### the tape -/
def tpd (c : Addr) (p l : Int) : List (Key × V) := [(.inr "cells", .ref c), (.inr "place", .int p), (.inr "left", .int l)]
structure Tape (H : Hp) (t c : Addr) (n : Nat) : Prop where
  ex : ∃ (cells : List Int) (p : Nat) (l : Int), H t = some (.dK (tpd c p l)) ∧ H c = some (.lst (cells.map V.int)) ∧ 0 < cells.length ∧ cells.length ≤ 63 ∧ p ≤ n ∧ 0 ≤ l
section
variable {H H' : Hp} {t c : Addr} {n m : Nat}
theorem Tape.dk (T : Tape H t c n) : ∃ kvs, H t = some (.dK kvs) := by
  obtain ⟨cells, p, l, h, _⟩ := T.ex
  exact ⟨_, h⟩
theorem Tape.same (T : Tape H t c n) (s : Same H H') : Tape H' t c n := by
  obtain ⟨cells, p, l, h, hc, r⟩ := T.ex
  exact ⟨cells, p, l, s _ _ h, s _ _ hc, r⟩
theorem Tape.kp (T : Tape H t c n) (s : Same H H') : Kp t H H' := by
  obtain ⟨kvs, h⟩ := T.dk
  exact Kp.of h s
theorem Tape.mono (T : Tape H t c n) (h : n ≤ m) : Tape H t c m := by
  obtain ⟨cells, p, l, h1, h2, h3, h4, h5, h6⟩ := T.ex
  exact ⟨cells, p, l, h1, h2, h3, h4, Nat.le_trans h5 h, h6⟩
theorem Kp.refl (T : Tape H t c n) : Kp t H H := T.kp (Same.refl H)
/-- a store at an object that is not the tape's -/
theorem Tape.upd {D : Addr} {o : HO} (T : Tape H t c n) (h1 : D ≠ t) (h2 : D ≠ c) : Tape (upd H D o) t c n := by
  obtain ⟨cells, p, l, h, hc, r⟩ := T.ex
  exact ⟨cells, p, l, (upd_ne h1.symm).trans h, (upd_ne h2.symm).trans hc, r⟩
theorem Tape.ne1 {D : Addr} (T : Tape H t c n) (h : H D = none) : D ≠ t := fun z => by
  obtain ⟨cells, p, l, e, hc, r⟩ := T.ex
  rw [z, e] at h
  cases h
theorem Tape.ne2 {D : Addr} (T : Tape H t c n) (h : H D = none) : D ≠ c := fun z => by
  obtain ⟨cells, p, l, e, hc, r⟩ := T.ex
  rw [z, hc] at h
  cases h
theorem Kp.put {D : Addr} {o : HO} (k : Kp t H H') (h : H D = Option.none) (h1 : D ≠ t) : Kp t H (L2.upd H' D o) := by
  obtain ⟨kvs, e⟩ := k.new
  refine ⟨k.old, ⟨kvs, (upd_ne h1.symm).trans e⟩, fun b u n q => ?_⟩
  rw [upd_ne (ne_of_none q h)]
  exact k.oth b u n q
end
theorem ks1 : ¬ (("cells" : Str) = "place") := by decide +kernel
theorem ks2 : ¬ (("cells" : Str) = "left") := by decide +kernel
theorem ks3 : ¬ (("place" : Str) = "left") := by decide +kernel
theorem ks1' : ¬ (("place" : Str) = "cells") := by decide +kernel
theorem ks2' : ¬ (("left" : Str) = "cells") := by decide +kernel
theorem ks3' : ¬ (("left" : Str) = "place") := by decide +kernel
theorem tp_cells (c : Addr) (p l : Int) : valV (tpd c p l) (Sum.inr ("cells" : Str)) = some (.ref c) := by simp [tpd, valV]
theorem tp_place (c : Addr) (p l : Int) : valV (tpd c p l) (Sum.inr ("place" : Str)) = some (.int p) := by simp [tpd, valV, ks1]
theorem tp_left (c : Addr) (p l : Int) : valV (tpd c p l) (Sum.inr ("left" : Str)) = some (.int l) := by simp [tpd, valV, ks2, ks3]
theorem tp_put_place (c : Addr) (p q l : Int) : putK (tpd c p l) (Sum.inr ("place" : Str)) (.int q) = tpd c q l := by simp [putK, tpd, ks1, ks3']
theorem tp_put_left (c : Addr) (p l m : Int) : putK (tpd c p l) (Sum.inr ("left" : Str)) (.int m) = tpd c p m := by simp [putK, tpd, ks2, ks3]
theorem tp_merge (c : Addr) (p l : Int) : mergeK [] (tpd c p l) = tpd c p l := by simp [mergeK, putK, tpd, ks1, ks2, ks3]
theorem g_cells {H : Hp} {t c : Addr} {p l : Int} (h : H t = some (.dK (tpd c p l))) : DGet H t (.str "cells") (some (.ref c)) := by
  have q := DGet.k (k := Sum.inr ("cells" : Str)) h
  rw [tp_cells] at q
  exact q
theorem g_place {H : Hp} {t c : Addr} {p l : Int} (h : H t = some (.dK (tpd c p l))) : DGet H t (.str "place") (some (.int p)) := by
  have q := DGet.k (k := Sum.inr ("place" : Str)) h
  rw [tp_place] at q
  exact q
theorem g_left {H : Hp} {t c : Addr} {p l : Int} (h : H t = some (.dK (tpd c p l))) : DGet H t (.str "left") (some (.int l)) := by
  have q := DGet.k (k := Sum.inr ("left" : Str)) h
  rw [tp_left] at q
  exact q
theorem p_place {H : Hp} {t c : Addr} {p l : Int} (q : Int) (h : H t = some (.dK (tpd c p l))) : DPut H t (.str "place") (.int q) (upd H t (.dK (tpd c q l))) := by
  have z := DPut.k (k := Sum.inr ("place" : Str)) (v := V.int q) h (by show 3 < sizeLine; decide)
  rw [tp_put_place] at z
  exact z
theorem p_left {H : Hp} {t c : Addr} {p l : Int} (q : Int) (h : H t = some (.dK (tpd c p l))) : DPut H t (.str "left") (.int q) (upd H t (.dK (tpd c p q))) := by
  have z := DPut.k (k := Sum.inr ("left" : Str)) (v := V.int q) h (by show 3 < sizeLine; decide)
  rw [tp_put_left] at z
  exact z
def spBegin (K : PySem.W.Frag) : Sp := fun vs H Q _ => ∃ (a : Addr) (ns : List Int), vs = [.ref a] ∧ SqL K H a (ns.map V.int) ∧ ∀ H' t c, Same H H' → H t = none → H c = none → Tape H' t c 0 → Q (.ref t) H'
def spDraw : Sp := fun vs H Q _ => ∃ (t c : Addr) (m : Int) (n : Nat), vs = [.ref t, .int m] ∧ Tape H t c n ∧ n < 2 ^ 40 ∧ 0 < m ∧ m < 2 ^ 30 ∧ ∀ H' r, Kp t H H' → Tape H' t c (n + 1) → 0 ≤ r → r < m → Q (.int r) H'
/-- pick: from a list, from a text -/
def spPick (K : PySem.W.Frag) : Sp := fun vs H Q _ => ∃ (t c : Addr) (n : Nat) (x : V), vs = [.ref t, x] ∧ Tape H t c n ∧ n < 2 ^ 40 ∧
  ((∃ a xs, x = .ref a ∧ SqL K H a xs ∧ xs ≠ [] ∧ xs.length < 2 ^ 30 ∧ ∀ H' y, Kp t H H' → Tape H' t c (n + 1) → y ∈ xs → Q y H') ∨
   (∃ z : Str, x = .str z ∧ z.length ≠ 0 ∧ z.length < 2 ^ 20 ∧ ∀ H' d, Kp t H H' → Tape H' t c (n + 1) → d ∈ z.cps.toList → Q (.str ⟨#[d]⟩) H'))
section
variable {P : Program} {w : World} {K : PySem.W.Frag} {mg : Str → Option Value} {base : Heap}
theorem scBegin : FnScope ["_law_script"] ["_law_script"] (defScope sBegin) := ⟨rfl, rfl, rfl, by decide +kernel, rfl, by decide +kernel, by decide +kernel⟩
theorem cut63 (ns : List Int) : ∃ ms : List Int, cutV (ns.map V.int) none (some 63) = ms.map V.int ∧ ms.length ≤ 63 := by
  refine ⟨ns.take 63, ?_, ?_⟩
  · unfold cutV
    rw [HT.sIx_none, show HT.sIx (ns.map V.int).length (ns.map V.int).length (some 63) = min 63 (ns.map V.int).length from HT.sIx_nat _ _ 63, List.map_take]
    show List.take _ (List.drop 0 _) = _
    rw [List.drop_zero, Nat.sub_zero]
    by_cases c : 63 ≤ (ns.map V.int).length
    · rw [Nat.min_eq_left c]
    · rw [Nat.min_eq_right (by omega), List.take_length, List.take_of_length_le (by omega)]
  · rw [List.length_take]
    omega
theorem ok_begin (D : Df K mg "_law_begin" sBegin ["_law_script"]) : FnOk P w K mg base CX0 1 D.f D.fd ["_law_script"] (spBegin K) := by
  refine D.F.ok scBegin (fun vs H Q E h => ?_) (fun cdv A outer s H vs Q E hr h => ?_)
  · obtain ⟨a, ns, rfl, _⟩ := h
    rfl
  · obtain ⟨a, ns, rfl, hS, k⟩ := h
    refine ⟨_, pss_one (ps_ret (pe_disp (pps_cons pe_str (pe_orT (pe_slice sl_list (pv 0) po_none (po_some pe_int)) (pe_one (pe_lst (pa_cons pe_int pa_nil)))) (pps_cons pe_str pe_int (pps_cons pe_str pe_int pps_nil))) (by rfl) (by rfl) (fun z => by cases z) (by decide))), ?_⟩
    intro t ht
    have s1 : Same H (upd H t (.dK [])) := same_upd ht
    obtain ⟨ms, em, hm⟩ := cut63 ns
    refine ⟨_, rfl, 63, rfl, a, ns.map V.int, rfl, s1.seq hS, fun c hc => ?_⟩
    have nct : c ≠ t := fun z => by
      rw [z, upd_same] at hc
      cases hc
    rw [em]
    refine ⟨!(ms.map V.int).isEmpty, .inl ⟨_, SqL.of upd_same, rfl⟩, ite2 (fun e => ?_) (fun e => ?_)⟩
    · refine ⟨Eq.trans (upd_ne nct.symm) upd_same, tpd c 0 0, rfl, by show 3 ≤ 15; decide, ?_⟩
      rw [tp_merge]
      refine k _ t c (fun b o eb => ?_) ht (s1.free hc) ⟨ms, 0, 0, upd_same, Eq.trans (upd_ne nct) upd_same, ?_, hm, Nat.le_refl _, Int.le_refl _⟩
      · have nb : b ≠ t := ne_of_none eb ht
        rw [upd_ne nb]
        exact same_upd hc _ _ (s1 _ _ eb)
      · cases ms with
        | nil => cases e
        | cons x r => exact Nat.succ_pos _
    · refine ⟨by show 1 ≤ sizeLine; decide, fun d hd => ?_⟩
      have ndt : d ≠ t := fun z => by
        rw [z, upd_ne nct.symm, upd_same] at hd
        cases hd
      refine ⟨Eq.trans (upd_ne ndt.symm) (Eq.trans (upd_ne nct.symm) upd_same), tpd d 0 0, rfl, by show 3 ≤ 15; decide, ?_⟩
      rw [tp_merge]
      refine k _ t d (fun b o eb => ?_) ht (s1.free ((same_upd hc).free hd)) ⟨[0], 0, 0, upd_same, Eq.trans (upd_ne ndt) upd_same, Nat.succ_pos _, by decide, Nat.le_refl _, Int.le_refl _⟩
      have nb : b ≠ t := ne_of_none eb ht
      rw [upd_ne nb]
      exact same_upd hd _ _ (same_upd hc _ _ (s1 _ _ eb))
theorem scDraw : FnScope ["_law_tape", "_law_many", "_law_place", "_law_count", "_law_cell", "_law_found"] ["_law_tape", "_law_many"] (defScope sDraw) := ⟨rfl, rfl, rfl, by decide +kernel, rfl, by decide +kernel, by decide +kernel⟩
theorem tape_put {H : Hp} {t c : Addr} {cells : List Int} {n p : Nat} {l : Int} {kvs : List (Key × V)} (e : H t = some (.dK kvs)) (hc : H c = some (.lst (cells.map V.int))) (h1 : 0 < cells.length) (h2 : cells.length ≤ 63) (hp : p ≤ n) (hl : 0 ≤ l) :
    Tape (upd H t (.dK (tpd c p l))) t c n := by
  have nct : c ≠ t := ne_of hc e (by intro z; cases z)
  exact ⟨cells, p, l, upd_same, Eq.trans (upd_ne nct) hc, h1, h2, hp, hl⟩
theorem kp_put {H : Hp} {t : Addr} {kvs kvs' : List (Key × V)} (e : H t = some (.dK kvs)) : Kp t H (upd H t (.dK kvs')) := ⟨⟨_, e⟩, ⟨_, upd_same⟩, fun b o n h => (upd_ne n).trans h⟩
theorem ok_draw (D : Df K mg "_law_draw" sDraw ["_law_tape", "_law_many"]) (ml : mg "len" = none) : FnOk P w K mg base CX0 1 D.f D.fd ["_law_tape", "_law_many"] spDraw := by
  refine D.F.ok scDraw (fun vs H Q E h => ?_) (fun cdv A outer s H vs Q E hr h => ?_)
  · obtain ⟨t, c, m, n, rfl, _⟩ := h
    rfl
  · obtain ⟨t, c, m, n, rfl, T, hn, m0, m1, k⟩ := h
    have hu := hu_of hr
    refine ⟨_, C8.pss_cut (ps_if (pt_cmpR op_lt (pe_dget hu (pv 0) pe_str (fun _ _ => rfl)) (pv 1) (nomark _))
        (pss_cons (ps_par (i := 2) (j := 3) rfl scDraw.nd rfl rfl (by decide) rfl rfl (pa_cons (pe_dget hu (pv 0) pe_str (fun _ _ => rfl)) (pa_cons (pe_callB call_len_seq (by rfl) ml PySem.boot_len (pa_cons (pe_dget hu (pv 0) pe_str (fun _ _ => rfl)) pa_nil)) pa_nil)) (by rfl))
        (pss_cons (ps_asg (pe_tup (pa_cons (pe_ix ix_list (pe_dget hu (pv 0) pe_str (fun _ _ => rfl)) (pe_op op_mod (pv 2) (pv 3)) (fun _ _ => rfl)) (pa_cons (pe_op op_add (pv 2) pe_int) pa_nil)))
            (pg_tup rfl (pgs_cons (pg_name (i := 4) scDraw.nd rfl (.inl rfl)) (pgs_cons (pg_sub (pv 0) pe_str (set_dict hu)) pgs_nil))))
        (pss_cons (ps_dput hu (pv 0) pe_str (pe_op op_mod (pe_op op_pow (pe_op op_add (pe_op op_add (pe_op op_mod (pv 4) pe_int) (pe_op op_mul pe_int (pv 2))) pe_int) pe_int) (pe_op op_add (pe_op op_pow pe_int pe_int) pe_int)) rfl)
        (pss_one (ps_if (pw_and (pt_cmpR op_ge (pv 4) (pe_op op_pow pe_int pe_int) (nomark _)) (pw_and1 (pt_cmpR op_lt (pv 2) (pv 3) (nomark _)))).pt
          (pss_one (ps_dput hu (pv 0) pe_str (pe_op op_sub (pv 4) (pe_op op_pow pe_int pe_int)) rfl)) pss_nil))))) pss_nil)
      (pss_cons (ps_asg (pe_tup (pa_cons (pe_op op_mod (pe_dget hu (pv 0) pe_str (fun _ _ => rfl)) (pv 1)) (pa_cons (pe_op op_fdiv (pe_dget hu (pv 0) pe_str (fun _ _ => rfl)) (pv 1)) pa_nil)))
            (pg_tup rfl (pgs_cons (pg_name (i := 5) scDraw.nd rfl (.inl rfl)) (pgs_cons (pg_sub (pv 0) pe_str (set_dict hu)) pgs_nil))))
      (pss_one (ps_ret (pv 5)))), ?_⟩
    have m1' : m < 1073741824 := m1
    obtain ⟨cells, p, l, ht, hc, c0, c63, hp, l0⟩ := T.ex
    refine ⟨fun σ' H' => ∃ y2 y3 y4, σ' = [some (.ref t), some (.int m), y2, y3, y4, none] ∧ Kp t H H' ∧ Tape H' t c (n + 1), ?_, ?_⟩
    · refine ⟨.ref t, rfl, t, .int l, rfl, g_left ht, .int m, rfl, l, m, rfl, rfl, _, rfl, ite2 (fun e => ?_) (fun e => ?_)⟩
      · refine ⟨.ref t, rfl, t, .int p, rfl, g_place ht, .ref t, rfl, t, .ref c, rfl, g_cells ht, c, _, rfl, .inl (SqL.of hc), _, _, rfl, ?_⟩
        have lp : 0 < (cells.map V.int).length := by
          rw [List.length_map]
          exact c0
        have jl : p % (cells.map V.int).length < cells.length := by
          have := Nat.mod_lt p lp
          rw [List.length_map] at this ⊢
          exact this
        have ga : (cells.map V.int)[p % (cells.map V.int).length]? = some (.int cells[p % (cells.map V.int).length]) := by
          rw [List.getElem?_map, List.getElem?_eq_getElem jl]
          rfl
        generalize cells[p % (cells.map V.int).length] = z at ga
        refine ⟨.ref t, rfl, t, .ref c, rfl, g_cells ht, _, rfl, _, rfl, (p : Int), ((cells.map V.int).length : Int), rfl, rfl, by omega, c, _, _, .int z, rfl, rfl, SqL.of hc, at_of (j := p % (cells.map V.int).length) (by rw [Int.natCast_emod]) ga, .int p, rfl, (p : Int), 1, rfl, rfl, by show 2 ≤ sizeLine; decide, fun q hq => ?_⟩
        have s1 : Same H (upd H q (.tup [.int z, .int ((p : Int) + 1)])) := same_upd hq
        have ht1 := s1 _ _ ht
        have hc1 := s1 _ _ hc
        have nct : c ≠ t := ne_of hc ht (by intro z; cases z)
        refine ⟨q, _, rfl, SqT.of upd_same, rfl, _, _, rfl, _, _, rfl, .ref t, rfl, t, _, rfl, p_place ((p : Int) + 1) ht1, rfl, ?_⟩
        have hn' : n < 1099511627776 := hn
        have zm0 : 0 ≤ z % 2147483647 := Int.emod_nonneg _ (by decide)
        have zm1 : z % 2147483647 < 2147483647 := Int.emod_lt_of_pos _ (by decide)
        have b0 : (z % 2147483647 + 69621 * (p : Int) + 48271).natAbs < 2 ^ 64 := by omega
        refine ⟨.int z, rfl, z, 2147483647, rfl, rfl, (by show (0 : Int) < 2147483647; decide), .int p, rfl, 69621, (p : Int), rfl, rfl, .inl ⟨by decide, by decide⟩, _, _, rfl, rfl, _, 48271, rfl, rfl, _, 17, rfl, rfl, ⟨by decide, by decide, b0⟩, 10, 50, rfl, rfl, ⟨by decide, by decide, by decide⟩, _, 151, rfl, rfl, _, _, rfl, rfl, ?_, ?_⟩
        · exact (by decide +kernel : (0 : Int) < 10 ^ (50 : Int).toNat + 151)
        have ht2 : (upd (upd H q (.tup [.int z, .int ((p : Int) + 1)])) t (.dK (tpd c ((p : Int) + 1) l))) t = some (.dK (tpd c ((p : Int) + 1) l)) := upd_same
        refine ⟨.ref t, rfl, t, _, rfl, p_left ((z % 2147483647 + 69621 * (p : Int) + 48271) ^ (17 : Int).toNat % (10 ^ (50 : Int).toNat + 151)) ht2, ?_⟩
        have x0 : 0 ≤ (z % 2147483647 + 69621 * (p : Int) + 48271) ^ (17 : Int).toNat % (10 ^ (50 : Int).toNat + 151) := Int.emod_nonneg _ (by decide +kernel)
        generalize (z % 2147483647 + 69621 * (p : Int) + 48271) ^ (17 : Int).toNat % (10 ^ (50 : Int).toNat + 151) = x17 at x0 ⊢
        have k3 : Kp t H (upd (upd (upd H q (.tup [.int z, .int ((p : Int) + 1)])) t (.dK (tpd c ((p : Int) + 1) l))) t (.dK (tpd c ((p : Int) + 1) x17))) := ((Kp.of ht s1).trans (kp_put ht1)).trans (kp_put ht2)
        have hc3 := k3.at hc (fun _ z => by cases z)
        refine ⟨.int z, rfl, 10, 18, rfl, rfl, ⟨by decide, by decide, by decide⟩, z, _, rfl, rfl, _, rfl, ite2 (fun e2 => ?_) (fun e2 => ?_)⟩
        · refine ⟨.int p, rfl, _, rfl, _, _, rfl, rfl, _, rfl, ite2 (fun e3 => ?_) (fun e3 => ?_)⟩
          · have hz : (0 : Int) ≤ z - 10 ^ (18 : Int).toNat := by
              have e4 : (10 : Int) ^ (18 : Int).toNat ≤ z := of_decide_eq_true e2
              omega
            refine ⟨.int z, rfl, 10, 18, rfl, rfl, ⟨by decide, by decide, by decide⟩, z, _, rfl, rfl, .ref t, rfl, t, _, rfl, p_left (z - 10 ^ (18 : Int).toNat) upd_same, ?_⟩
            exact ⟨_, _, _, rfl, k3.trans (kp_put upd_same), tape_put (p := p + 1) upd_same hc3 c0 c63 (by omega) hz⟩
          · exact ⟨_, _, _, rfl, k3, ⟨cells, p + 1, x17, upd_same, hc3, c0, c63, by omega, x0⟩⟩
        · exact ⟨_, _, _, rfl, k3, ⟨cells, p + 1, x17, upd_same, hc3, c0, c63, by omega, x0⟩⟩
      · exact ⟨none, none, none, rfl, Kp.refl T, T.mono (Nat.le_succ n)⟩
    · rintro σ' H' ⟨y2, y3, y4, rfl, k1, T1⟩
      obtain ⟨cells, p, l, ht, hc, c0, c63, hp, l0⟩ := T1.ex
      refine ⟨.ref t, rfl, t, .int l, rfl, g_left ht, .int m, rfl, l, m, rfl, rfl, m0, .ref t, rfl, t, .int l, rfl, g_left ht, .int m, rfl, l, m, rfl, rfl, ⟨m0, m1⟩, by show 2 ≤ sizeLine; decide, fun q hq => ?_⟩
      have s1 : Same H' (upd H' q (.tup [.int (l % m), .int (l / m)])) := same_upd hq
      have ht1 := s1 _ _ ht
      refine ⟨q, _, rfl, SqT.of upd_same, rfl, _, _, rfl, _, _, rfl, .ref t, rfl, t, _, rfl, p_left (l / m) ht1, rfl, ?_⟩
      refine ⟨_, rfl, k _ _ ((k1.trans (T1.kp s1)).trans (kp_put ht1)) (tape_put ht1 (s1 _ _ hc) c0 c63 hp (Int.ediv_nonneg l0 (by omega))) (Int.emod_nonneg _ (by omega)) (Int.emod_lt_of_pos _ m0)⟩
theorem at_cp {α : Type} {xs : List α} {z : Int} {j : Nat} {v : α} (e : z = (j : Int)) (h : xs[j]? = some v) : atI xs z = some v := by
  rw [e]
  exact atI_nat h
theorem scPick : FnScope ["_law_tape", "_law_items"] ["_law_tape", "_law_items"] (defScope sPick) := ⟨rfl, rfl, rfl, by decide +kernel, rfl, by decide +kernel, by decide +kernel⟩
theorem ok_pick (D : Df K mg "_law_pick" sPick ["_law_tape", "_law_items"]) (Dd : Df K mg "_law_draw" sDraw ["_law_tape", "_law_many"]) (ml : mg "len" = none) : FnOk P w K mg base CX0 2 D.f D.fd ["_law_tape", "_law_items"] (spPick K) := by
  have Gd : FnOk P w K mg base CX0 1 Dd.f Dd.fd ["_law_tape", "_law_many"] spDraw := ok_draw Dd ml
  refine D.F.ok scPick (fun vs H Q E h => ?_) (fun cdv A outer s H vs Q E hr h => ?_)
  · obtain ⟨t, c, n, x, rfl, _⟩ := h
    rfl
  · obtain ⟨t, c, n, x, rfl, T, hn, h⟩ := h
    rcases h with ⟨a, xs, rfl, hx, ne, hl, k⟩ | ⟨z, rfl, ne, hl, k⟩
    · refine ⟨_, pss_one (ps_ret (pe_ix ix_list (pv 1) (pe_call Gd hr (by rfl) Dd.g Dd.F.kp Dd.b .nil pass0 (pa_cons (pv 0) (pa_cons (pe_callB call_len_seq (by rfl) ml PySem.boot_len (pa_cons (pv 1) pa_nil)) pa_nil))) (fun _ _ => rfl))), ?_⟩
      have l0 : 0 < xs.length := List.length_pos_iff.mpr ne
      refine ⟨.ref a, rfl, .ref t, rfl, .ref a, rfl, a, xs, rfl, .inl hx, t, c, _, n, rfl, T, hn, by omega, by omega, fun H' r k1 T1 r0 r1 => ?_⟩
      have rl : r.toNat < xs.length := by omega
      refine ⟨a, xs, r, xs[r.toNat], rfl, rfl, k1.lst hx, at_of (j := r.toNat) (by omega) (List.getElem?_eq_getElem rl), k H' _ k1 T1 (List.getElem_mem rl)⟩
    · refine ⟨_, pss_one (ps_ret (pe_ix ix_str (pv 1) (pe_call Gd hr (by rfl) Dd.g Dd.F.kp Dd.b .nil pass0 (pa_cons (pv 0) (pa_cons (pe_callB call_len_str (by rfl) ml PySem.boot_len (pa_cons (pv 1) pa_nil)) pa_nil))) (fun _ _ => rfl))), ?_⟩
      have zl : z.cps.toList.length = z.length := Array.length_toList
      refine ⟨.str z, rfl, .ref t, rfl, .str z, rfl, z, rfl, ?_, t, c, _, n, rfl, T, hn, by omega, by omega, fun H' r k1 T1 r0 r1 => ?_⟩
      · rw [sizeLine_eq]; omega
      have rl : r.toNat < z.cps.toList.length := by omega
      refine ⟨z, r, z.cps.toList[r.toNat], rfl, rfl, ?_, at_cp (by omega) (List.getElem?_eq_getElem rl), k H' _ k1 T1 (List.getElem_mem rl)⟩
      rw [sizeLine_eq]
      omega
end
end DW
namespace DW
open PySem PySem.Spec PyProof.Rows L2 TL
set_option autoImplicit false
/-! ### texts as lists of codes -/
def one (c : Nat) : Str := ⟨#[c]⟩
theorem tl_one (c : Nat) : tl (one c) = [c] := rfl
theorem tl_inj {x y : Str} (h : tl x = tl y) : x = y := by
  obtain ⟨⟨a⟩⟩ := x
  obtain ⟨⟨b⟩⟩ := y
  have e : a = b := h
  rw [e]
theorem joinL_nil : ∀ l : List (List Nat), joinL [] l = l.flatten
  | [] => rfl
  | [p] => by simp [joinL]
  | p :: q :: r => by
    show p ++ ([] ++ joinL [] (q :: r)) = (p :: q :: r).flatten
    rw [joinL_nil (q :: r)]
    simp
theorem tl_cat (ys : List Str) : tl (Txt.join "" ys) = (ys.map tl).flatten := by
  have e : tl (Str.join "" ys) = joinL (tl "") (ys.map tl) := tl_join "" ys
  rw [join_eq, e, show tl "" = [] from rfl, joinL_nil]
theorem flat_ones (cs : List Nat) : ((cs.map one).map tl).flatten = cs := by
  induction cs with
  | nil => rfl
  | cons c r ih =>
    show [c] ++ ((r.map one).map tl).flatten = c :: r
    rw [ih]
    rfl
theorem lt_ones (x p : Nat) : ltCps (tl (one x)) (tl (one p)) = decide (x < p) := by
  simp [one, ltCps]
theorem sorted_ones : ∀ ys : List Str, (∀ y ∈ ys, ∃ c, y = one c) → ys.Nodup → sortedS ys = true → ∃ cs : List Nat, ys = cs.map one ∧ cs.Pairwise (· < ·)
  | [], _, _, _ => ⟨[], rfl, List.Pairwise.nil⟩
  | [y], h, _, _ => by
    obtain ⟨c, rfl⟩ := h y List.mem_cons_self
    exact ⟨[c], rfl, List.pairwise_singleton _ _⟩
  | y :: z :: r, h, nd, so => by
    obtain ⟨hy, nd'⟩ := List.nodup_cons.mp nd
    obtain ⟨c, rfl⟩ := h y List.mem_cons_self
    obtain ⟨d, rfl⟩ := h z (List.mem_cons_of_mem _ List.mem_cons_self)
    have so' : (!ltCps (tl (one d)) (tl (one c)) && risingS (one d) r) = true := so
    rw [Bool.and_eq_true] at so'
    obtain ⟨cs, e, pw⟩ := sorted_ones (one d :: r) (fun u hu => h u (List.mem_cons_of_mem _ hu)) nd' so'.2
    have lt : c < d := by
      have q := so'.1
      rw [lt_ones] at q
      have n1 : ¬ d < c := by simpa using q
      have n2 : c ≠ d := fun z => hy (by rw [z]; exact List.mem_cons_self)
      omega
    cases cs with
    | nil => cases e
    | cons d' cs =>
      have e1 : one d = one d' := (List.cons.inj e).1
      have e2 : d = d' := by
        have q := congrArg tl e1
        exact (List.cons.inj q).1
      subst e2
      refine ⟨c :: d :: cs, by rw [List.map_cons, ← e], List.pairwise_cons.mpr ⟨fun u hu => ?_, pw⟩⟩
      rcases List.mem_cons.mp hu with q | q
      · omega
      · have := (List.pairwise_cons.mp pw).1 u q
        omega
theorem sum_ones : ∀ ys : List Str, (∀ y ∈ ys, ∃ c, y = one c) → (ys.map (·.length)).sum = ys.length
  | [], _ => rfl
  | y :: r, h => by
    obtain ⟨c, rfl⟩ := h y List.mem_cons_self
    rw [List.map_cons, List.sum_cons, sum_ones r fun u hu => h u (List.mem_cons_of_mem _ hu), List.length_cons]
    show 1 + r.length = r.length + 1
    omega
theorem yes {σ : L2.St} {H : Hp} {F G : Hp → Prop} (h : F H) : tYes σ H (fun b H3 => if b = true then F H3 else G H3) := by
  show (if true = true then F H else G H)
  rw [if_pos rfl]
  exact h
/-- an alphabet -/
def Alph (z : Str) : Prop := (tl z).Pairwise (· < ·) ∧ 1 ≤ (tl z).length ∧ (tl z).length ≤ 3 ∧ ∀ c ∈ tl z, 97 ≤ c ∧ c ≤ 122
def abc : Str := "abcdefghijklmnopqrstuvwxyz"
theorem abc_low : ∀ c ∈ tl abc, 97 ≤ c ∧ c ≤ 122 := by decide +kernel
theorem abc_len : (tl abc).length = 26 := by decide +kernel
theorem al1 : Alph "ab" := by unfold Alph; decide +kernel
theorem al2 : Alph "abc" := by unfold Alph; decide +kernel
theorem al3 : Alph "a" := by unfold Alph; decide +kernel
theorem al4 : Alph "bx" := by unfold Alph; decide +kernel
theorem al5 : Alph "cmz" := by unfold Alph; decide +kernel
theorem alph_of {ds : List Nat} {ls ys : List Str} (h1 : 1 ≤ ds.length) (h3 : ds.length ≤ 3) (low : ∀ c ∈ ds, 97 ≤ c ∧ c ≤ 122) (nd : ls.Nodup) (mem : ∀ k, k ∈ ls ↔ k ∈ ds.map one) (le : ls.length ≤ (ds.map one).length)
    (pm : ys.Perm ls) (so : sortedS ys = true) : Alph (Txt.join "" ys) := by
  have hm : ∀ y ∈ ys, y ∈ ds.map one := fun y hy => (mem y).mp (pm.mem_iff.mp hy)
  obtain ⟨cs, rfl, pw⟩ := sorted_ones ys (fun y hy => by
    obtain ⟨c, _, e⟩ := List.mem_map.mp (hm y hy)
    exact ⟨c, e.symm⟩) (pm.nodup_iff.mpr nd) so
  have e : tl (Txt.join "" (cs.map one)) = cs := by rw [tl_cat, flat_ones]
  have hl : cs.length = ls.length := by
    have q := pm.length_eq
    rw [List.length_map] at q
    exact q
  rw [List.length_map] at le
  unfold Alph
  rw [e]
  refine ⟨pw, ?_, by omega, fun c hc => ?_⟩
  · cases ds with
    | nil => cases h1
    | cons d r =>
      have q : one d ∈ ls := (mem _).mpr List.mem_cons_self
      have q2 : one d ∈ cs.map one := pm.mem_iff.mpr q
      have := List.length_pos_of_mem q2
      rw [List.length_map] at this
      omega
  · obtain ⟨d, hd, e⟩ := List.mem_map.mp (hm (one c) (List.mem_map.mpr ⟨c, hc, rfl⟩))
    have e2 : d = c := by
      have q := congrArg tl e
      exact (List.cons.inj q).1
    rw [← e2]
    exact low d hd
/-! ### what the module's names hold -/
structure Bl (mg : Str → Option Value) : Prop where
  len : mg "len" = none
  range : mg "range" = none
  sorted : mg "sorted" = none
  set : mg "set" = none
def spAlpha : Sp := fun vs H Q _ => ∃ (t c : Addr) (n : Nat), vs = [.ref t] ∧ Tape H t c n ∧ n + 10 < 2 ^ 40 ∧ ∀ H' z, Kp t H H' → Tape H' t c (n + 10) → Alph z → Q (.str z) H'
abbrev DfDraw (K : PySem.W.Frag) (mg : Str → Option Value) := Df K mg "_law_draw" sDraw ["_law_tape", "_law_many"]
abbrev DfPick (K : PySem.W.Frag) (mg : Str → Option Value) := Df K mg "_law_pick" sPick ["_law_tape", "_law_items"]
end DW
namespace DW
open PySem PySem.Spec PyProof.Rows L2 TL
set_option autoImplicit false
section
variable {P : Program} {w : World} {K : PySem.W.Frag} {mg : Str → Option Value} {base : Heap}
theorem scAlpha : FnScope ["_law_tape", "_law_letters", "_law_drawn", "_law_k"] ["_law_tape"] (defScope sAlpha) := ⟨rfl, rfl, rfl, by decide +kernel, rfl, by decide +kernel, by decide +kernel⟩
theorem ok_alpha (D : Df K mg "_law_alphabet" sAlpha ["_law_tape"]) (Dd : DfDraw K mg) (Dp : DfPick K mg) (B : Bl mg) : FnOk P w K mg base CX0 3 D.f D.fd ["_law_tape"] spAlpha := by
  have Gd : FnOk P w K mg base CX0 1 Dd.f Dd.fd ["_law_tape", "_law_many"] spDraw := ok_draw Dd B.len
  have Gp : FnOk P w K mg base CX0 2 Dp.f Dp.fd ["_law_tape", "_law_items"] (spPick K) := ok_pick Dp Dd B.len
  refine D.F.ok scAlpha (fun vs H Q E h => ?_) (fun cdv A outer s H vs Q E hr h => ?_)
  · obtain ⟨t, c, n, rfl, _⟩ := h
    rfl
  · obtain ⟨t, c, n, rfl, T, hn, k⟩ := h
    have hr1 : Room 1 _ := hr.mono (by decide)
    refine ⟨_, pss_cons (ps_set (i := 1) scAlpha.nd rfl (Or.inr rfl) pe_str)
      (pss_cons (ps_setLc (i := 2) (own := [("_law_k", 3)]) (g := gName 3) (tt := tYes) rfl scAlpha.nd rfl rfl (sw_true rfl rfl rfl (by decide +kernel))
        (pi_range1 rfl B.range (pa_cons (pe_op op_add pe_int (pe_call Gd hr1 (by rfl) Dd.g Dd.F.kp Dd.b .nil pass0 (pa_cons (pv 0) (pa_cons pe_int pa_nil)))) pa_nil))
        (blkOk_by (N := ["_law_tape", "_law_letters", "_law_drawn", "_law_k"]) (sc := defScope sAlpha) (by decide +kernel)) (fun _ _ _ _ _ => pg_name (i := 3) scAlpha.nd rfl (Or.inl rfl)) (fun _ _ _ _ _ => pts_nil)
        (fun _ _ _ _ _ => pe_ix ix_str (pv 1) (pe_call Gd hr1 (by rfl) Dd.g Dd.F.kp Dd.b .nil pass0 (pa_cons (pv 0) (pa_cons pe_int pa_nil))) (fun _ _ => rfl)))
      (pss_one (ps_ret (pe_call Gp hr (by rfl) Dp.g Dp.F.kp Dp.b .nil pass0 (pa_cons (pv 0) (pa_cons
        (pe_op op_cat (pe_lst (pa_cons pe_str (pa_cons pe_str (pa_cons pe_str (pa_cons pe_str (pa_cons pe_str pa_nil))))))
          (pe_op op_rep (pe_lst (pa_cons (pe_join pe_str (pe_callB (TX.cr_sortTx rfl) (by rfl) B.sorted (by decide +kernel) (pa_cons (pe_callTy (TX.cr_setL rfl) (by rfl) B.set (by decide +kernel) (pa_cons (pv 2) pa_nil)) pa_nil))) pa_nil)) pe_int)) pa_nil)))))), ?_⟩
    refine ⟨.ref t, rfl, t, c, 3, n, rfl, T, by omega, by decide, by decide, fun H1 r k1 T1 r0 r1 => ?_⟩
    refine ⟨1, r, rfl, rfl, 1 + r, rfl, by omega, by omega, fun D hD => ?_⟩
    have D1 := T1.ne1 hD
    have D2 := T1.ne2 hD
    have D0 := k1.gone hD
    refine lc_range (lo := 0) (n := (1 + r).toNat) (fun i H' => ∃ ds : List Nat, ds.length = i ∧ (∀ c ∈ ds, 97 ≤ c ∧ c ≤ 122) ∧ H' D = some (.lst ((ds.map one).map V.str)) ∧ Kp t H H' ∧ Tape H' t c (n + 1 + i)) ?_ ?_ ?_
    · exact ⟨[], rfl, fun c hc => (nomatch hc), upd_same, k1.put D0 D1, T1.upd D1 D2⟩
    · rintro i G hi ⟨ds, dl, low, gD, kG, TG⟩
      refine ⟨rfl, yes ?_⟩
      refine ⟨.str abc, rfl, .ref t, rfl, t, c, 26, n + 1 + i, rfl, TG, by omega, by decide, by decide, fun H4 q k4 T4 q0 q1 => ?_⟩
      have ql : q.toNat < (tl abc).length := by
        rw [abc_len]
        omega
      have gD4 := k4.at gD (fun _ z => by cases z)
      refine ⟨abc, q, (tl abc)[q.toNat], rfl, rfl, by decide +kernel, at_cp (j := q.toNat) (by omega) (List.getElem?_eq_getElem ql), _, gD4, ?_, ?_⟩
      · rw [List.length_map, List.length_map, dl, sizeLine_eq]
        omega
      · refine ⟨ds ++ [(tl abc)[q.toNat]], by rw [List.length_append, dl]; rfl, fun c hc => ?_, ?_, ?_, ?_⟩
        · rcases List.mem_append.mp hc with z | z
          · exact low c z
          · rw [List.mem_singleton.mp z]
            exact abc_low _ (List.getElem_mem ql)
        · rw [upd_same, List.map_append, List.map_append]
          rfl
        · exact (kG.trans k4).put D0 D1
        · exact T4.upd D1 D2
    · rintro G ⟨ds, dl, low, gD, kG, TG⟩
      refine ⟨.ref t, rfl, by show 5 ≤ sizeLine; decide, fun l1 e1 => ?_⟩
      have s1 := same_upd (o := .lst [V.str "ab", V.str "abc", V.str "a", V.str "bx", V.str "cmz"]) e1
      refine ⟨⟨_, rfl⟩, .ref D, rfl, D, ds.map one, rfl, SqL.of (s1 _ _ gD), ?_, fun a ls ea nd mem le => ?_⟩
      · rw [List.length_map, dl]
        unfold scanBound
        omega
      have s2 := same_upd (o := TX.SetTx P w a ls) ea
      refine ⟨a, ls, rfl, upd_same, ?_, fun ys p pm so ep => ?_⟩
      · rw [List.length_map] at le
        omega
      have al := alph_of (by omega) (by omega) low nd mem le pm so
      have s3 := same_upd (o := .lst (ys.map V.str)) ep
      refine ⟨"", p, ys, rfl, rfl, .inl (SqL.of upd_same), ?_, by show 1 ≤ sizeLine; decide, fun l2 e2 => ?_⟩
      · rw [sum_ones ys fun y hy => ?_]
        · rw [pm.length_eq]
          rw [List.length_map] at le
          show ls.length + ls.length * 0 ≤ 16777216
          omega
        · obtain ⟨u, _, e⟩ := List.mem_map.mp ((mem y).mp (pm.mem_iff.mp hy))
          exact ⟨u, e.symm⟩
      have s4 := same_upd (o := .lst [V.str (Txt.join "" ys)]) e2
      refine ⟨l2, 5, _, rfl, rfl, upd_same, by decide, by decide, by show 1 * 5 ≤ sizeLine; decide, fun l3 e3 => ?_⟩
      have s5 := same_upd (o := .lst (List.replicate (5 : Int).toNat [V.str (Txt.join "" ys)]).flatten) e3
      refine ⟨l1, l3, _, _, rfl, rfl, s5 _ _ (s4 _ _ (s3 _ _ (s2 _ _ upd_same))), upd_same, by show 5 + 5 ≤ sizeLine; decide, fun l4 e4 => ?_⟩
      have s6 := same_upd (o := .lst ([V.str "ab", V.str "abc", V.str "a", V.str "bx", V.str "cmz"] ++ (List.replicate (5 : Int).toNat [V.str (Txt.join "" ys)]).flatten)) e4
      have sa := ((((s1.trans s2).trans s3).trans s4).trans s5).trans s6
      refine ⟨t, c, n + 1 + (1 + r).toNat, .ref l4, rfl, TG.same sa, by omega, .inl ⟨l4, _, rfl, SqL.of upd_same, by simp, by show 10 < 2 ^ 30; decide, fun H' y k' T' hy => ?_⟩⟩
      have hy' : ∃ z, y = V.str z ∧ Alph z := by
        rcases List.mem_append.mp hy with q | q
        · simp only [List.mem_cons, List.not_mem_nil, or_false] at q
          rcases q with q | q | q | q | q
          · exact ⟨_, q, al1⟩
          · exact ⟨_, q, al2⟩
          · exact ⟨_, q, al3⟩
          · exact ⟨_, q, al4⟩
          · exact ⟨_, q, al5⟩
        · obtain ⟨u, hu, hy⟩ := List.mem_flatten.mp q
          rw [List.eq_of_mem_replicate hu] at hy
          exact ⟨_, List.mem_singleton.mp hy, al⟩
      obtain ⟨z, rfl, az⟩ := hy'
      exact k H' z ((kG.trans (TG.kp sa)).trans k') (T'.mono (by omega)) az
end
end DW
namespace DW
open PySem PySem.Spec PyProof.Rows L2 TL
set_option autoImplicit false
theorem drop_at {α : Type} {l : List α} {i : Nat} {x : α} (h : l[i]? = some x) : l.drop i = x :: l.drop (i + 1) := by
  obtain ⟨hi, e⟩ := List.getElem?_eq_some_iff.mp h
  rw [← e]
  exact List.drop_eq_getElem_cons hi
theorem tl_app (x y : Str) : tl (x ++ y) = tl x ++ tl y := Array.toList_append
def OverW (z : Str) (u : Str) : Prop := ∀ c ∈ tl u, c ∈ tl z
/-! ### letters taken one after the other -/
def rem : List Nat → List Nat → List Nat
  | w, [] => w
  | [], _ :: _ => []
  | c :: w, d :: o => if c = d then rem w o else rem (c :: w) o
theorem rem_nil : ∀ o : List Nat, rem [] o = []
  | [] => rfl
  | _ :: _ => rfl
theorem rem_iff : ∀ (o w : List Nat), rem w o = [] ↔ w.Sublist o
  | [], w => by
    show w = [] ↔ _
    rw [List.sublist_nil]
  | d :: o, [] => by simp [rem]
  | d :: o, c :: w => by
    show (if c = d then rem w o else rem (c :: w) o) = [] ↔ _
    by_cases e : c = d
    · subst e
      rw [if_pos rfl, rem_iff o w, List.cons_sublist_cons]
    · rw [if_neg e, rem_iff o (c :: w)]
      constructor
      · exact fun h => .cons _ h
      · intro h
        cases h with
        | cons _ h => exact h
        | cons_cons _ h => exact absurd rfl e
theorem cut_tail {z : Str} {c : Nat} {r : List Nat} (h : tl z = c :: r) : tl (cutS z (some 1) none) = r := by
  have zl : z.length = r.length + 1 := by
    have e : z.length = (tl z).length := (Array.length_toList).symm
    rw [e, h]
    rfl
  show ((z.cps.toList.drop (HT.sIx z.length 0 (some 1))).take (HT.sIx z.length z.length none - HT.sIx z.length 0 (some 1))) = r
  rw [show HT.sIx z.length 0 (some 1) = min 1 z.length from HT.sIx_nat z.length 0 1, HT.sIx_none]
  have h' : z.cps.toList = c :: r := h
  rw [h', show min 1 z.length = 1 by omega, show z.length - 1 = r.length by omega]
  show List.take r.length r = r
  exact List.take_length
def spSubL : Sp := fun vs H Q _ => ∃ (x y : Str), vs = [.str x, .str y] ∧ (tl x).length ≤ 1000000 ∧ ∀ b, (b = true ↔ (tl x).Sublist (tl y)) → Q (.bl b) H
def spWord : Sp := fun vs H Q _ => ∃ (t c : Addr) (n : Nat) (z : Str) (m : Int), vs = [.ref t, .str z, .int m] ∧ Tape H t c n ∧ n + 200 < 2 ^ 40 ∧ Alph z ∧ 0 ≤ m ∧ m ≤ 100 ∧
  ∀ H' u, Kp t H H' → Tape H' t c (n + 200) → OverW z u → ((tl u).length : Int) ≤ m → Q (.str u) H'
section
variable {P : Program} {w : World} {K : PySem.W.Frag} {mg : Str → Option Value} {base : Heap}
theorem scSubL : FnScope ["_law_word_here", "_law_other", "_law_letter"] ["_law_word_here", "_law_other"] (defScope sLIsSubword) := ⟨rfl, rfl, rfl, by decide +kernel, rfl, by decide +kernel, by decide +kernel⟩
theorem ok_subl (D : Df K mg "_law_is_subword" sLIsSubword ["_law_word_here", "_law_other"]) : FnOk P w K mg base CX0 1 D.f D.fd ["_law_word_here", "_law_other"] spSubL := by
  refine D.F.ok scSubL (fun vs H Q E h => ?_) (fun cdv A outer s H vs Q E hr h => ?_)
  · obtain ⟨x, y, rfl, _⟩ := h
    rfl
  · obtain ⟨x, y, rfl, xl, k⟩ := h
    have ys : y.cps.size = (tl y).length := (Array.length_toList).symm
    refine ⟨_, PSs.nox (pss_cons (ps_for PassesOwn.never rfl (pi_str (pv 1)) (pg_name (i := 2) scSubL.nd rfl (.inl rfl)) (pss_one (ps_if (pw_and (pt_cmpR op_ne (pv 0) pe_str (nomark _)) (pw_and1 (pt_cmpR op_eq (pe_ix ix_str (pv 0) pe_int (fun _ _ => rfl)) (pv 2) (nomark _)))).pt (pss_one (ps_set (i := 0) scSubL.nd rfl (.inl rfl) (pe_slice sl_str (pv 0) (po_some pe_int) po_none))) pss_nil))) (pss_one (ps_ret (pe_cmpR op_eq (pv 0) pe_str (nomark _))))), ?_⟩
    refine ⟨.str y, rfl, y, rfl, for_it walk_str (fun i σ H' => ∃ (u : Str) (y2 : Option V), σ = [some (.str u), some (.str y), y2] ∧ H' = H ∧ rem (tl u) ((tl y).drop i) = rem (tl x) (tl y) ∧ (tl u).length ≤ 1000000) ⟨x, _, rfl, rfl, rfl, xl⟩ (fun _ _ _ _ _ => trivial) ?_ ?_⟩
    · rintro i v σ G G' hi ⟨u, y2, rfl, rfl, er, ul⟩ ⟨rfl, d, hd, rfl⟩
      have hd' : (tl y)[i]? = some d := by rw [Array.getElem?_toList]; exact hd
      have us : u.length = (tl u).length := (Array.length_toList).symm
      rw [drop_at hd'] at er
      refine ⟨.str u, rfl, rfl, _, rfl, ?_⟩
      cases q : tl u with
      | nil =>
        have e : u = "" := tl_inj q
        rw [e, show (!decide (V.str "" = V.str "")) = false by simp]
        refine iteF (iteF ⟨"", _, rfl, rfl, ?_, by decide⟩)
        rw [q, rem_nil] at er
        rw [← er]
        show rem [] _ = []
        exact rem_nil _
      | cons c r =>
        rw [show (!decide (V.str u = V.str "")) = true by
          rw [decide_eq_false fun e => by
            have := V.str.inj e
            rw [this] at q
            cases q]
          rfl]
        refine iteT ?_
        rw [q] at er
        have e0 : rem (c :: r) (d :: (tl y).drop (i + 1)) = if c = d then rem r ((tl y).drop (i + 1)) else rem (c :: r) ((tl y).drop (i + 1)) := rfl
        rw [e0] at er
        refine ⟨.str u, rfl, u, 0, c, rfl, rfl, by rw [us, sizeLine_eq]; omega, at_cp (j := 0) rfl (by show (tl u)[0]? = _; rw [q]; rfl), _, rfl, rfl, _, rfl, ite2 (fun e => ?_) (fun e => ?_)⟩
        · have ec : c = d := by
            have := V.str.inj (of_decide_eq_true e)
            have := congrArg tl this
            exact (List.cons.inj this).1
          rw [if_pos ec] at er
          refine ⟨.str u, rfl, 1, rfl, u, rfl, by rw [us, sizeLine_eq]; omega, ?_⟩
          refine ⟨cutS u (some 1) none, _, rfl, rfl, by rw [cut_tail q]; exact er, ?_⟩
          rw [cut_tail q]
          rw [q, List.length_cons] at ul
          omega
        · have ec : ¬ c = d := fun z => e (decide_eq_true (by rw [z]))
          rw [if_neg ec] at er
          exact ⟨u, _, rfl, rfl, by rw [q]; exact er, ul⟩
    · rintro σ G ⟨u, y2, rfl, rfl, er, ul⟩
      rw [ys, List.drop_length] at er
      refine ⟨.str u, rfl, rfl, k _ ?_⟩
      rw [← rem_iff, ← er]
      show decide (V.str u = V.str "") = true ↔ tl u = []
      rw [decide_eq_true_eq]
      constructor
      · intro e
        rw [V.str.inj e]
        rfl
      · intro e
        have : u = "" := tl_inj e
        rw [this]
theorem scWord : FnScope ["_law_tape", "_law_alphabet_here", "_law_longest", "_law_k"] ["_law_tape", "_law_alphabet_here", "_law_longest"] (defScope sWord) := ⟨rfl, rfl, rfl, by decide +kernel, rfl, by decide +kernel, by decide +kernel⟩
theorem ok_word (D : Df K mg "_law_word" sWord ["_law_tape", "_law_alphabet_here", "_law_longest"]) (Dd : DfDraw K mg) (Dp : DfPick K mg) (B : Bl mg) : FnOk P w K mg base CX0 3 D.f D.fd ["_law_tape", "_law_alphabet_here", "_law_longest"] spWord := by
  have Gd : FnOk P w K mg base CX0 1 Dd.f Dd.fd ["_law_tape", "_law_many"] spDraw := ok_draw Dd B.len
  have Gp : FnOk P w K mg base CX0 2 Dp.f Dp.fd ["_law_tape", "_law_items"] (spPick K) := ok_pick Dp Dd B.len
  refine D.F.ok scWord (fun vs H Q E h => ?_) (fun cdv A outer s H vs Q E hr h => ?_)
  · obtain ⟨t, c, n, z, m, rfl, _⟩ := h
    rfl
  · obtain ⟨t, c, n, z, m, rfl, T, hn, al, m0, m1, k⟩ := h
    have hr1 : Room 1 _ := hr.mono (by decide)
    have zl : z.length = (tl z).length := (Array.length_toList).symm
    obtain ⟨pw, l1, l3, low⟩ := id al
    refine ⟨_, (pss_one (ps_ret (pe_join pe_str (pe_lc (own := [("_law_k", 3)]) (g := gName 3) rfl scWord.nd (pi_range1 rfl B.range (pa_cons (pe_call Gd hr1 (by rfl) Dd.g Dd.F.kp Dd.b .nil pass0 (pa_cons (pv 0) (pa_cons (pe_op op_add (pv 2) pe_int) pa_nil))) pa_nil)) (blkOk_by (N := ["_law_tape", "_law_alphabet_here", "_law_longest", "_law_k"]) (sc := defScope sWord) (by decide +kernel)) (fun _ _ _ _ _ => pg_name (i := 3) scWord.nd rfl (Or.inl rfl)) (fun _ _ _ _ _ => pts_nil) (fun _ _ _ _ _ => (pe_call Gp hr (by rfl) Dp.g Dp.F.kp Dp.b .nil pass0 (pa_cons (pv 0) (pa_cons (pv 1) pa_nil)))))))), ?_⟩
    refine ⟨⟨_, rfl⟩, .ref t, rfl, .int m, rfl, m, 1, rfl, rfl, t, c, m + 1, n, rfl, T, by omega, by omega, by omega, fun H1 r k1 T1 r0 r1 => ?_⟩
    refine ⟨r, rfl, by omega, by omega, fun D hD => ?_⟩
    have D1 := T1.ne1 hD
    have D2 := T1.ne2 hD
    have D0 := k1.gone hD
    refine lc_range (lo := 0) (n := r.toNat) (fun i H' => ∃ ds : List Nat, ds.length = i ∧ (∀ c ∈ ds, c ∈ tl z) ∧ H' D = some (.lst ((ds.map one).map V.str)) ∧ Kp t H H' ∧ Tape H' t c (n + 1 + i)) ?_ ?_ ?_
    · exact ⟨[], rfl, fun c hc => (nomatch hc), upd_same, k1.put D0 D1, T1.upd D1 D2⟩
    · rintro i G hi ⟨ds, dl, ov, gD, kG, TG⟩
      refine ⟨rfl, yes ?_⟩
      refine ⟨.ref t, rfl, .str z, rfl, t, c, _, .str z, rfl, TG, by omega, .inr ⟨z, rfl, by omega, by omega, fun H4 d k4 T4 hd => ?_⟩⟩
      have gD4 := k4.at gD (fun _ z => by cases z)
      refine ⟨_, gD4, ?_, ds ++ [d], by rw [List.length_append, dl]; rfl, fun c hc => ?_, ?_, (kG.trans k4).put D0 D1, T4.upd D1 D2⟩
      · rw [List.length_map, List.length_map, dl, sizeLine_eq]
        omega
      · rcases List.mem_append.mp hc with q | q
        · exact ov c q
        · rw [List.mem_singleton.mp q]
          exact hd
      · rw [upd_same, List.map_append, List.map_append]
        rfl
    · rintro G ⟨ds, dl, ov, gD, kG, TG⟩
      have ej : tl (Txt.join "" (ds.map one)) = ds := by rw [tl_cat, flat_ones]
      refine ⟨"", D, ds.map one, rfl, rfl, .inl (SqL.of gD), ?_, k _ _ kG (TG.mono (by omega)) (fun c hc => ov c (by rw [ej] at hc; exact hc)) (by rw [ej]; omega)⟩
      rw [sum_ones _ fun y hy => ?_, List.length_map]
      · show ds.length + ds.length * 0 ≤ 16777216
        omega
      · obtain ⟨u, _, e⟩ := List.mem_map.mp hy
        exact ⟨u, e.symm⟩
end
end DW
namespace DW
open PySem PySem.Spec PyProof.Rows L2 TL
set_option autoImplicit false
/-! ### first positions -/
def nxt (o : List Nat) (c s : Nat) : Option Nat := if s < o.length then (if o[s]? = some c then some s else nxt o c (s + 1)) else none
termination_by o.length - s
theorem nxt_eq (o : List Nat) (c s : Nat) : nxt o c s = if s < o.length then (if o[s]? = some c then some s else nxt o c (s + 1)) else none := by
  conv => lhs; unfold nxt
theorem nxt_none {o : List Nat} {c : Nat} : ∀ (n s : Nat), o.length - s = n → (∀ v, s ≤ v → o[v]? ≠ some c) → nxt o c s = none
  | 0, s, e, h => by
    rw [nxt_eq, if_neg (by omega)]
  | n + 1, s, e, h => by
    rw [nxt_eq, if_pos (by omega), if_neg (h s (Nat.le_refl _))]
    exact nxt_none n (s + 1) (by omega) fun v hv => h v (by omega)
theorem nxt_some {o : List Nat} {c p : Nat} : ∀ (n s : Nat), p - s = n → s ≤ p → o[p]? = some c → (∀ v, s ≤ v → v < p → o[v]? ≠ some c) → nxt o c s = some p
  | 0, s, e, h, hp, _ => by
    have e2 : s = p := by omega
    subst e2
    rw [nxt_eq, if_pos (List.getElem?_eq_some_iff.mp hp).1, if_pos hp]
  | n + 1, s, e, h, hp, hn => by
    have := (List.getElem?_eq_some_iff.mp hp).1
    rw [nxt_eq, if_pos (by omega), if_neg (hn s (Nat.le_refl _) (by omega))]
    exact nxt_some n (s + 1) (by omega) (by omega) hp fun v h1 h2 => hn v (by omega) h2
theorem nxt_bd {o : List Nat} {c p : Nat} : ∀ (n s : Nat), o.length - s = n → nxt o c s = some p → s ≤ p ∧ p < o.length ∧ o[p]? = some c
  | 0, s, e, h => by
    rw [nxt_eq, if_neg (by omega)] at h
    cases h
  | n + 1, s, e, h => by
    rw [nxt_eq, if_pos (by omega)] at h
    by_cases q : o[s]? = some c
    · rw [if_pos q] at h
      cases h
      exact ⟨Nat.le_refl _, by omega, q⟩
    · rw [if_neg q] at h
      obtain ⟨h1, h2, h3⟩ := nxt_bd n (s + 1) (by omega) h
      exact ⟨by omega, h2, h3⟩
def fp : List Nat → List Nat → Nat → Option (List Nat)
  | [], _, _ => some []
  | c :: w, o, s => match nxt o c s with
    | none => none
    | some p => (fp w o (p + 1)).map (p :: ·)
theorem fp_none {c s : Nat} {w o : List Nat} (h : nxt o c s = none) : fp (c :: w) o s = none := by
  unfold fp
  rw [h]
theorem fp_some {c s p : Nat} {w o : List Nat} (h : nxt o c s = some p) : fp (c :: w) o s = (fp w o (p + 1)).map (p :: ·) := by
  conv => lhs; unfold fp
  rw [h]
theorem fp_bd {o : List Nat} : ∀ (w : List Nat) (s : Nat) (ps : List Nat), fp w o s = some ps → ps.length = w.length ∧ ∀ p ∈ ps, p < o.length
  | [], s, ps, h => by
    cases (Option.some.inj h)
    exact ⟨rfl, fun p hp => (nomatch hp)⟩
  | c :: w, s, ps, h => by
    cases q : nxt o c s with
    | none =>
      rw [fp_none q] at h
      cases h
    | some p =>
      rw [fp_some q] at h
      cases e : fp w o (p + 1) with
      | none =>
        rw [e] at h
        cases h
      | some qs =>
        rw [e] at h
        cases (Option.some.inj h)
        obtain ⟨h1, h2⟩ := fp_bd w (p + 1) qs e
        refine ⟨by rw [List.length_cons, List.length_cons, h1], fun r hr => ?_⟩
        rcases List.mem_cons.mp hr with z | z
        · rw [z]
          exact (nxt_bd _ s rfl q).2.1
        · exact h2 r z
theorem nxt_drop {o : List Nat} {c : Nat} : ∀ (n s : Nat), o.length - s = n → ∀ w, (c :: w).Sublist (o.drop s) ↔ ∃ p, nxt o c s = some p ∧ w.Sublist (o.drop (p + 1))
  | 0, s, e, w => by
    rw [List.drop_of_length_le (by omega), nxt_eq, if_neg (by omega)]
    constructor
    · intro h
      cases h
    · rintro ⟨p, h, _⟩
      cases h
  | n + 1, s, e, w => by
    have hs : s < o.length := by omega
    rw [List.drop_eq_getElem_cons hs, nxt_eq, if_pos hs, List.getElem?_eq_getElem hs]
    by_cases q : o[s] = c
    · rw [if_pos (by rw [q]), q, List.cons_sublist_cons]
      constructor
      · intro h
        exact ⟨s, rfl, h⟩
      · rintro ⟨p, h, hw⟩
        cases h
        exact hw
    · rw [if_neg (fun z => q (Option.some.inj z)), ← nxt_drop n (s + 1) (by omega) w]
      constructor
      · intro h
        cases h with
        | cons _ h => exact h
        | cons_cons _ h => exact absurd rfl q
      · exact fun h => .cons _ h
theorem fp_iff {o : List Nat} : ∀ (w : List Nat) (s : Nat), (fp w o s).isSome = true ↔ w.Sublist (o.drop s)
  | [], s => by simp [fp]
  | c :: w, s => by
    rw [nxt_drop _ s rfl w]
    cases q : nxt o c s with
    | none =>
      rw [fp_none q]
      simp
    | some p =>
      rw [fp_some q]
      have ih := fp_iff (o := o) w (p + 1)
      rw [Option.isSome_map, ih]
      simp
theorem fp_iff0 (w o : List Nat) : (fp w o 0).isSome = true ↔ w.Sublist o := by
  have := fp_iff (o := o) w 0
  rw [List.drop_zero] at this
  exact this
theorem getD_at {y : Str} {k c : Nat} (h : k < y.length) : y.cps.getD k 0 = c ↔ (tl y)[k]? = some c := by
  obtain ⟨⟨l⟩⟩ := y
  have h' : k < l.length := h
  show (Array.mk l).getD k 0 = c ↔ l[k]? = some c
  rw [List.getElem?_eq_getElem h']
  simp [Array.getD, h']
theorem find_nxt (y : Str) (c s : Nat) : Txt.find3 y ⟨#[c]⟩ (s : Int) = match nxt (tl y) c s with | none => -1 | some p => (p : Int) := by
  have yl : y.length = (tl y).length := (Array.length_toList).symm
  have fi : fromIndex y.length (s : Int) = s := by
    unfold fromIndex
    rw [if_neg (by omega)]
    omega
  rcases StrLaws.find3_spec y c (s : Int) with ⟨e, h⟩ | ⟨k, e, h1, h2, h3, h4⟩
  · rw [e, nxt_none _ s rfl fun v hv hq => ?_]
    rw [fi] at h
    have lt : v < y.length := by rw [yl]; exact (List.getElem?_eq_some_iff.mp hq).1
    exact h v hv lt ((getD_at lt).mpr hq)
  · rw [fi] at h1 h4
    rw [e, nxt_some _ s rfl h1 ((getD_at h2).mp h3) fun v hv1 hv2 hq => ?_]
    exact h4 v hv1 hv2 ((getD_at (by omega)).mpr hq)
/-! ### positions as data -/
def natD (ps : List Nat) : PyData := .tuple (ps.map fun (p : Nat) => .int (p : Int))
theorem nat_dp {K : PySem.W.Frag} {H : Hp} {a : Addr} {ps : List Nat} (h : SqT K H a (ps.map fun (p : Nat) => V.int (p : Int))) : Dp K H (.ref a) (natD ps) := by
  refine .tup h ?_
  induction ps with
  | nil => exact .nil
  | cons p r ih =>
    refine .cons (.int _) ?_
    have : ∀ qs : List Nat, DpAll K H (qs.map fun (p : Nat) => V.int (p : Int)) (qs.map fun (p : Nat) => PyData.int (p : Int)) := by
      intro qs
      induction qs with
      | nil => exact .nil
      | cons q s ih => exact .cons (.int _) ih
    exact this r
theorem nat_ok : ∀ (ps : List Nat), (∀ p ∈ ps, p < 100) → PyData.canLayAll0 (ps.map fun (p : Nat) => .int (p : Int)) = true ∧ PyData.depthAll (ps.map fun (p : Nat) => .int (p : Int)) = 0 ∧ PyData.weightAll (ps.map fun (p : Nat) => .int (p : Int)) ≤ 10 * ps.length ∧
    PyData.showableAll (ps.map fun (p : Nat) => .int (p : Int)) = true ∧ PyData.hasDictAll (ps.map fun (p : Nat) => .int (p : Int)) = false ∧ PyData.intsShortAll 13 (ps.map fun (p : Nat) => .int (p : Int)) = true
  | [], _ => ⟨rfl, rfl, Nat.le_refl _, rfl, rfl, rfl⟩
  | p :: r, h => by
    obtain ⟨h1, h2, h3, h4, h5, h6⟩ := nat_ok r fun q hq => h q (List.mem_cons_of_mem _ hq)
    have hp := h p List.mem_cons_self
    have fin : ∀ n : Nat, n < 100 → (if ((n : Int) == 0) = true then 0 else (n : Int).natAbs.log2 + 1) ≤ 9 ∧ decide ((n : Int).natAbs.log2 < 1920) = true ∧ decide ((PyData.shown (.int (n : Int))).length ≤ 13) = true := by decide +kernel
    obtain ⟨f1, f2, f3⟩ := fin p hp
    rw [List.map_cons]
    refine ⟨by simp only [PyData.canLayAll0, PyData.canLay0, h1, Bool.and_self], by simp only [PyData.depthAll, PyData.depth, h2]; rfl, ?_, by simp only [PyData.showableAll, PyData.showable, f2, h4, Bool.and_self], by simp only [PyData.hasDictAll, PyData.hasDict, h5, Bool.or_self], by simp only [PyData.intsShortAll, PyData.intsShort, f3, h6, Bool.and_self]⟩
    simp only [PyData.weightAll, PyData.weight, List.length_cons]
    omega
theorem nat_shown {ps : List Nat} (h : ∀ p ∈ ps, p < 100) (hl : ps.length ≤ 1000) : (natD ps).showable = true ∧ (natD ps).hasDict = false ∧ (natD ps).depth ≤ 64 ∧ (natD ps).shown.length ≤ sizeLine := by
  obtain ⟨h1, h2, h3, h4, h5, h6⟩ := nat_ok ps h
  have d1 : (natD ps).depth = 1 := by
    unfold natD
    simp only [PyData.depth, h2]
  refine ⟨by unfold natD; simp only [PyData.showable, h4], by unfold natD; simp only [PyData.hasDict, h5], by omega, ?_⟩
  have lay : PyData.layable0 (natD ps) = true := by
    unfold PyData.layable0
    rw [Bool.and_eq_true, Bool.and_eq_true]
    refine ⟨⟨by unfold natD; simp only [PyData.canLay0, h1], decide_eq_true (by omega)⟩, decide_eq_true ?_⟩
    unfold natD
    simp only [PyData.weight]
    omega
  have := shown_le13 lay (by unfold natD; simp only [PyData.intsShort, h6])
  rw [sizeLine_eq]
  omega
/-! ### all subwords -/
theorem sub_snoc {u l : List Nat} {c : Nat} : u.Sublist (l ++ [c]) ↔ u.Sublist l ∨ ∃ v, u = v ++ [c] ∧ v.Sublist l := by
  rw [List.sublist_append_iff]
  constructor
  · rintro ⟨a, b, rfl, h1, h2⟩
    cases h2 with
    | cons _ h =>
      rw [List.sublist_nil.mp h, List.append_nil]
      exact .inl h1
    | cons_cons _ h =>
      rw [List.sublist_nil.mp h]
      exact .inr ⟨a, rfl, h1⟩
  · rintro (h | ⟨v, rfl, h⟩)
    · exact ⟨u, [], by simp, h, List.nil_sublist _⟩
    · exact ⟨v, [c], rfl, h, List.Sublist.refl _⟩
theorem in_strs (x : Str) (ws : List Str) : inV (.str x) (ws.map V.str) = decide (x ∈ ws) := by
  unfold inV
  rw [List.any_map, Bool.eq_iff_iff, List.any_eq_true, decide_eq_true_eq]
  constructor
  · rintro ⟨y, hy, e⟩
    have : y = x := by simpa [eqV] using e
    rw [← this]
    exact hy
  · intro h
    exact ⟨x, h, by simp [eqV]⟩
theorem flat_strs (ws : List Str) : (ws.map V.str).all flatV = true := by
  rw [List.all_map, List.all_eq_true]
  intro y _
  rfl
def spFp (K : PySem.W.Frag) : Sp := fun vs H Q _ => ∃ (x y : Str), vs = [.str x, .str y] ∧ (tl x).length ≤ 1000 ∧ (tl y).length ≤ 1000 ∧ ∀ H', Same H H' → (fp (tl x) (tl y) 0 = none → Q .non H') ∧ ∀ ps p, fp (tl x) (tl y) 0 = some ps → SqT K H' p (ps.map fun (n : Nat) => V.int (n : Int)) → Q (.ref p) H'
def spSubP : Sp := fun vs H Q _ => ∃ (x y : Str), vs = [.str x, .str y] ∧ (tl x).length ≤ 1000 ∧ (tl y).length ≤ 1000 ∧ ∀ H' b, Same H H' → (b = true ↔ (tl x).Sublist (tl y)) → Q (.bl b) H'
def spAll : Sp := fun vs H Q _ => ∃ (y : Str), vs = [.str y] ∧ (tl y).length ≤ 7 ∧ ∀ H' l (ws : List Str), Same H H' → H' l = some (.lst (ws.map V.str)) → (∀ u : Str, u ∈ ws ↔ (tl u).Sublist (tl y)) → Q (.ref l) H'
section
variable {P : Program} {w : World} {K : PySem.W.Frag} {mg : Str → Option Value} {base : Heap}
theorem scFp : FnScope ["word", "other", "positions", "start", "letter", "place"] ["word", "other"] (defScope sFirstPositions) := ⟨rfl, rfl, rfl, by decide +kernel, rfl, by decide +kernel, by decide +kernel⟩
theorem ok_fp (D : Df K mg "first_positions" sFirstPositions ["word", "other"]) (mt : mg "tuple" = none) : FnOk P w K mg base CX0 1 D.f D.fd ["word", "other"] (spFp K) := by
  refine D.F.ok scFp (fun vs H Q E h => ?_) (fun cdv A outer s H vs Q E hr h => ?_)
  · obtain ⟨x, y, rfl, _⟩ := h
    rfl
  · obtain ⟨x, y, rfl, xl, yl, k⟩ := h
    have xs : x.cps.size = (tl x).length := (Array.length_toList).symm
    refine ⟨_, PSs.nox (pss_cons (ps_set (i := 2) scFp.nd rfl (.inl rfl) (pe_lst pa_nil)) (pss_cons (ps_set (i := 3) scFp.nd rfl (.inl rfl) pe_int) (pss_cons (ps_for PassesOwn.never rfl (pi_str (pv 0)) (pg_name (i := 4) scFp.nd rfl (.inl rfl)) (pss_cons (ps_set (i := 5) scFp.nd rfl (.inl rfl) (pe_bm PySem.F.plainAttrs_str PySem.F.slot_str_find PySem.F.type_str_find mt_find3 (pv 1) (pa_cons (pv 4) (pa_cons (pv 3) pa_nil)))) (pss_cons (ps_if (pt_cmpR op_lt (pv 5) pe_int (nomark _)) (pss_one (ps_ret pe_non)) pss_nil) (pss_cons (ps_expr (pe_bm PySem.F.plainAttrs_list PySem.F.slot_list_append PySem.F.type_list_append mt_append (pv 2) (pa_cons (pv 5) pa_nil))) (pss_one (ps_set (i := 3) scFp.nd rfl (.inl rfl) (pe_op op_add (pv 5) pe_int))))))) (pss_one (ps_ret (pe_callTy call_tuple_of (by rfl) mt (by decide +kernel) (pa_cons (pv 2) pa_nil))))))), ?_⟩
    refine ⟨Nat.zero_le _, fun l hl => ?_⟩
    have sl := same_upd (o := .lst []) hl
    refine ⟨.str x, rfl, x, rfl, for_it walk_str (fun i σ H' => ∃ (ps : List Nat) (st : Nat) (y4 y5 : Option V), σ = [some (.str x), some (.str y), some (.ref l), some (.int st), y4, y5] ∧ H' l = some (.lst (ps.map fun (n : Nat) => V.int (n : Int))) ∧ ps.length = i ∧ fp (tl x) (tl y) 0 = (fp ((tl x).drop i) (tl y) st).map (ps ++ ·) ∧ Same H H')
      ⟨[], 0, _, _, rfl, upd_same, rfl, by simp, sl⟩ (fun _ _ _ _ _ => trivial) ?_ ?_⟩
    · rintro i v σ G G' hi ⟨ps, st, y4, y5, rfl, gl, pl, ef, sm⟩ ⟨rfl, d, hd, rfl⟩
      have hd' : (tl x)[i]? = some d := by rw [Array.getElem?_toList]; exact hd
      rw [drop_at hd'] at ef
      refine ⟨.str y, rfl, rfl, _, rfl, .int st, rfl, y, ⟨#[d]⟩, (st : Int), rfl, rfl, ?_⟩
      rw [find_nxt]
      cases q : nxt (tl y) d st with
      | none =>
        rw [fp_none q] at ef
        refine ⟨_, rfl, -1, 0, rfl, rfl, _, rfl, ?_⟩
        rw [show decide ((-1 : Int) < 0) = true by decide]
        refine iteT ?_
        exact (k _ sm).1 ef
      | some p =>
        rw [fp_some q] at ef
        obtain ⟨b1, b2, b3⟩ := nxt_bd _ st rfl q
        refine ⟨_, rfl, (p : Int), 0, rfl, rfl, _, rfl, ?_⟩
        rw [show decide ((p : Int) < 0) = false from decide_eq_false (by omega)]
        refine iteF ?_
        refine ⟨.ref l, rfl, .inl ⟨rfl, _, SqL.of gl⟩, .int p, rfl, l, _, _, rfl, rfl, gl, ?_, ?_⟩
        · rw [List.length_map, pl, sizeLine_eq]
          omega
        refine ⟨.int p, rfl, (p : Int), 1, rfl, rfl, ?_⟩
        refine ⟨ps ++ [p], p + 1, _, _, rfl, by rw [upd_same, List.map_append]; rfl, by rw [List.length_append, pl]; rfl, ?_, fun b o e => (upd_ne (ne_of_none e hl)).trans (sm _ _ e)⟩
        rw [ef, Option.map_map]
        congr 1
        funext z
        simp
    · rintro σ G ⟨ps, st, y4, y5, rfl, gl, pl, ef, sm⟩
      rw [xs, List.drop_length] at ef
      have ef' : fp (tl x) (tl y) 0 = some ps := by
        rw [ef]
        simp [fp]
      refine ⟨.ref l, rfl, l, _, rfl, .inl ⟨SqL.of gl, fun p hp => ?_⟩⟩
      exact (k _ (sm.trans (same_upd hp))).2 ps p ef' (SqT.of upd_same)
theorem scSubP : FnScope ["word", "other"] ["word", "other"] (defScope sIsSubword) := ⟨rfl, rfl, rfl, by decide +kernel, rfl, by decide +kernel, by decide +kernel⟩
theorem ok_subp (D : Df K mg "is_subword" sIsSubword ["word", "other"]) (Df0 : Df K mg "first_positions" sFirstPositions ["word", "other"]) (mt : mg "tuple" = none) : FnOk P w K mg base CX0 2 D.f D.fd ["word", "other"] spSubP := by
  have Gf : FnOk P w K mg base CX0 1 Df0.f Df0.fd ["word", "other"] (spFp K) := ok_fp Df0 mt
  refine D.F.ok scSubP (fun vs H Q E h => ?_) (fun cdv A outer s H vs Q E hr h => ?_)
  · obtain ⟨x, y, rfl, _⟩ := h
    rfl
  · obtain ⟨x, y, rfl, xl, yl, k⟩ := h
    refine ⟨_, (pss_one (ps_ret (pe_cmpR op_notN (pe_call Gf hr (by rfl) Df0.g Df0.F.kp Df0.b .nil pass0 (pa_cons (pv 0) (pa_cons (pv 1) pa_nil))) pe_non (nomark _)))), ?_⟩
    refine ⟨.str x, rfl, .str y, rfl, x, y, rfl, xl, yl, fun H' sm => ⟨fun e => ⟨rfl, k _ _ sm ?_⟩, fun ps p e hp => ⟨rfl, k _ _ sm ?_⟩⟩⟩
    · rw [← fp_iff0, e]
      simp
    · rw [← fp_iff0, e]
      simp
end
end DW
/-! Lists of texts in shortlex order, and the ones that hold no other -/
namespace DW
open PySem PySem.Spec PyProof.Rows L2 TL
set_option autoImplicit false
theorem asc_of : ∀ ys : List Str, ys.Nodup → sortedS ys = true → ys.Pairwise (fun a b => tl a < tl b)
  | [], _, _ => List.Pairwise.nil
  | [y], _, _ => List.pairwise_singleton _ _
  | y :: z :: r, nd, so => by
    obtain ⟨hy, nd'⟩ := List.nodup_cons.mp nd
    have so' : (!ltCps (tl z) (tl y) && risingS z r) = true := so
    rw [Bool.and_eq_true] at so'
    have pw := asc_of (z :: r) nd' so'.2
    have lt : tl y < tl z := by
      have q := so'.1
      rw [ltCps_eq] at q
      have n1 : ¬ tl z < tl y := by simpa using q
      have n2 : tl y ≠ tl z := fun e => hy (by
        have e' : y = z := by
          cases y
          cases z
          exact congrArg Str.mk (Array.toList_inj.mp e)
        rw [e']
        exact List.mem_cons_self)
      rcases List.le_total (tl y) (tl z) with h | h
      · rcases Decidable.em (tl y < tl z) with g | g
        · exact g
        · exact absurd (List.le_antisymm h g) n2
      · exact absurd (List.le_antisymm (n1 : tl y ≤ tl z) h) n2
    refine List.pairwise_cons.mpr ⟨fun u hu => ?_, pw⟩
    rcases List.mem_cons.mp hu with q | q
    · rw [q]
      exact lt
    · exact List.lt_trans lt ((List.pairwise_cons.mp pw).1 u q)
theorem asc_uniq : ∀ (l m : List Str), l.Pairwise (fun a b => tl a < tl b) → m.Pairwise (fun a b => tl a < tl b) → (∀ k, k ∈ l ↔ k ∈ m) → l = m
  | [], [], _, _, _ => rfl
  | [], b :: m, _, _, h => by
    have := (h b).mpr List.mem_cons_self
    cases this
  | a :: l, [], _, _, h => by
    have := (h a).mp List.mem_cons_self
    cases this
  | a :: l, b :: m, p, q, h => by
    obtain ⟨pa, p'⟩ := List.pairwise_cons.mp p
    obtain ⟨qb, q'⟩ := List.pairwise_cons.mp q
    have ab : a = b := by
      rcases List.mem_cons.mp ((h a).mp List.mem_cons_self) with e | e
      · exact e
      · rcases List.mem_cons.mp ((h b).mpr List.mem_cons_self) with f | f
        · exact f.symm
        · exact absurd (List.lt_trans (pa b f) (qb a e)) (List.lt_irrefl _)
    subst ab
    have e := asc_uniq l m p' q' fun k => by
      constructor
      · intro hk
        rcases List.mem_cons.mp ((h k).mp (List.mem_cons_of_mem _ hk)) with e | e
        · rw [e] at hk
          exact absurd (pa a hk) (List.lt_irrefl _)
        · exact e
      · intro hk
        rcases List.mem_cons.mp ((h k).mpr (List.mem_cons_of_mem _ hk)) with e | e
        · rw [e] at hk
          exact absurd (qb a hk) (List.lt_irrefl _)
        · exact e
    rw [e]
/-- the words of a list, each once, in shortlex order -/
structure Slx (ws ys : List Str) : Prop where
  mem : ∀ k, k ∈ ys ↔ k ∈ ws
  pw : ys.Pairwise (fun a b => (tl a).length ≤ (tl b).length)
  src : ∃ zs : List Str, ys = SL.byLen zs ∧ zs.Pairwise (fun a b => tl a < tl b) ∧ (∀ k, k ∈ zs ↔ k ∈ ws)
theorem leLen_eq : SL.leLen = fun a b : Str => decide ((tl a).length ≤ (tl b).length) := by
  unfold SL.leLen
  rw [PySem.W.dataLe_int]
  funext a b
  have e : ∀ x : Str, x.length = (tl x).length := fun x => (Array.length_toList).symm
  rw [e a, e b]
  simp
theorem slx_of {ws ls ys : List Str} (nd : ls.Nodup) (mem : ∀ k, k ∈ ls ↔ k ∈ ws) (pm : ys.Perm ls) (so : sortedS ys = true) : Slx ws (SL.byLen ys) := by
  have m2 : ∀ k, k ∈ ys ↔ k ∈ ws := fun k => (pm.mem_iff).trans (mem k)
  refine ⟨fun k => ?_, ?_, ys, rfl, asc_of ys (pm.nodup_iff.mpr nd) so, m2⟩
  · unfold SL.byLen
    rw [(List.mergeSort_perm _ _).mem_iff]
    exact m2 k
  · unfold SL.byLen
    rw [leLen_eq]
    have := List.pairwise_mergeSort (le := fun a b : Str => decide ((tl a).length ≤ (tl b).length)) (fun a b c h1 h2 => by simp at *; omega) (fun a b => by simp; omega) ys
    exact this.imp fun h => of_decide_eq_true h
theorem slx_uniq {ws ys ys' : List Str} (h : Slx ws ys) (h' : Slx ws ys') : ys = ys' := by
  obtain ⟨zs, rfl, p, m⟩ := h.src
  obtain ⟨zs', rfl, p', m'⟩ := h'.src
  rw [asc_uniq zs zs' p p' fun k => (m k).trans (m' k).symm]
/-! ### words that hold no other -/
def holdsB (w u : Str) : Bool := !decide (u = w) && (tl u).isSublist (tl w)
def kept (ws : List Str) (w : Str) : Bool := (ws.filter (holdsB w)).isEmpty
def propB (w u : Str) : Bool := decide ((tl u).length < (tl w).length) && (tl u).isSublist (tl w)
theorem tl_inj' {x y : Str} (h : tl x = tl y) : x = y := by
  cases x
  cases y
  exact congrArg Str.mk (Array.toList_inj.mp h)
theorem holds_iff {w u : Str} : holdsB w u = true ↔ u ≠ w ∧ (tl u).Sublist (tl w) := by
  unfold holdsB
  rw [Bool.and_eq_true, List.isSublist_iff_sublist]
  simp
theorem prop_iff {w u : Str} : propB w u = true ↔ (tl u).length < (tl w).length ∧ (tl u).Sublist (tl w) := by
  unfold propB
  rw [Bool.and_eq_true, List.isSublist_iff_sublist, decide_eq_true_eq]
theorem holds_prop (w u : Str) : holdsB w u = propB w u := by
  rw [Bool.eq_iff_iff, holds_iff, prop_iff]
  constructor
  · rintro ⟨ne, s⟩
    refine ⟨Nat.lt_of_le_of_ne s.length_le fun e => ne (tl_inj' (s.eq_of_length e)), s⟩
  · rintro ⟨lt, s⟩
    exact ⟨fun e => by rw [e] at lt; omega, s⟩
theorem kept_iff {ws : List Str} {w : Str} : kept ws w = true ↔ ∀ u ∈ ws, propB w u = false := by
  unfold kept
  rw [List.isEmpty_iff, List.filter_eq_nil_iff]
  constructor
  · intro h u hu
    have := h u hu
    rw [holds_prop] at this
    simpa using this
  · intro h u hu
    rw [holds_prop, h u hu]
    simp
theorem kept_under (ws : List Str) : ∀ (n : Nat) (u : Str), (tl u).length = n → u ∈ ws → ∃ v ∈ ws, kept ws v = true ∧ (tl v).Sublist (tl u) := by
  intro n
  induction n using Nat.strongRecOn with
  | ind n ih =>
    intro u hn hu
    by_cases k : kept ws u = true
    · exact ⟨u, hu, k, List.Sublist.refl _⟩
    · have k' := fun q => k (kept_iff.mpr q)
      obtain ⟨x, hx, px⟩ : ∃ x ∈ ws, propB u x = true := by
        refine Classical.byContradiction fun c => k' fun x hx => ?_
        cases e : propB u x with
        | false => rfl
        | true => exact absurd ⟨x, hx, e⟩ c
      obtain ⟨lt, s⟩ := prop_iff.mp px
      obtain ⟨v, hv, kv, sv⟩ := ih (tl x).length (by omega) x rfl hx
      exact ⟨v, hv, kv, sv.trans s⟩
theorem kept_step {ws zs : List Str} {i : Nat} {w : Str} (S : Slx ws zs) (hw : zs[i]? = some w) : ((zs.take i).filter (kept ws)).any (propB w) = !kept ws w := by
  have hi : i < zs.length := (List.getElem?_eq_some_iff.mp hw).1
  have ez : zs = zs.take i ++ w :: zs.drop (i + 1) := by
    have e := (List.getElem?_eq_some_iff.mp hw).2
    rw [← e, ← List.drop_eq_getElem_cons hi, List.take_append_drop]
  cases k : kept ws w with
  | true =>
    have k' := kept_iff.mp k
    rw [Bool.not_true, List.any_eq_false]
    intro s hs
    have := List.mem_of_mem_take (List.mem_filter.mp hs).1
    rw [k' s ((S.mem s).mp this)]
    simp
  | false =>
    rw [Bool.not_false, List.any_eq_true]
    obtain ⟨u, hu, pu⟩ : ∃ u ∈ ws, propB w u = true := by
      refine Classical.byContradiction fun c => ?_
      have := kept_iff (ws := ws) (w := w) |>.mpr fun x hx => by
        cases e : propB w x with
        | false => rfl
        | true => exact absurd ⟨x, hx, e⟩ c
      rw [k] at this
      cases this
    obtain ⟨lt, s⟩ := prop_iff.mp pu
    obtain ⟨v, hv, kv, sv⟩ := kept_under ws _ u rfl hu
    have lv : (tl v).length < (tl w).length := Nat.lt_of_le_of_lt sv.length_le lt
    refine ⟨v, List.mem_filter.mpr ⟨?_, kv⟩, prop_iff.mpr ⟨lv, sv.trans s⟩⟩
    have vz := (S.mem v).mpr hv
    have pw := S.pw
    rw [ez] at vz pw
    rcases List.mem_append.mp vz with q | q
    · exact q
    · exfalso
      have p2 := (List.pairwise_append.mp pw).2.1
      rcases List.mem_cons.mp q with e | e
      · rw [e] at lv
        omega
      · have := (List.pairwise_cons.mp p2).1 v e
        omega
/-! ### a list of texts as data -/
def strD (ws : List Str) : PyData := .list (ws.map PyData.str)
theorem str_dpAll {K : PySem.W.Frag} {H : Hp} : ∀ ws : List Str, DpAll K H (ws.map V.str) (ws.map PyData.str)
  | [] => .nil
  | x :: r => .cons (.str _) (str_dpAll r)
theorem str_dp {K : PySem.W.Frag} {H : Hp} {a : Addr} {ws : List Str} (h : SqL K H a (ws.map V.str)) : Dp K H (.ref a) (strD ws) := .lst h (str_dpAll ws)
theorem str_ok : ∀ (ws : List Str), (∀ u ∈ ws, (tl u).length ≤ 20 ∧ ∀ c ∈ tl u, c < 128) → PyData.canLayAll0 (ws.map PyData.str) = true ∧ PyData.depthAll (ws.map PyData.str) = 0 ∧ PyData.weightAll (ws.map PyData.str) ≤ 21 * ws.length ∧
    PyData.showableAll (ws.map PyData.str) = true ∧ PyData.hasDictAll (ws.map PyData.str) = false ∧ PyData.intsShortAll 13 (ws.map PyData.str) = true
  | [], _ => ⟨rfl, rfl, Nat.le_refl _, rfl, rfl, rfl⟩
  | u :: r, h => by
    obtain ⟨h1, h2, h3, h4, h5, h6⟩ := str_ok r fun q hq => h q (List.mem_cons_of_mem _ hq)
    obtain ⟨ul, uc⟩ := h u List.mem_cons_self
    have us : u.cps.size = (tl u).length := (Array.length_toList).symm
    have so : PyData.strOk u = true := by
      unfold PyData.strOk
      rw [Array.all_eq_true]
      intro i hi
      have := uc u.cps[i] (by show u.cps[i] ∈ u.cps.toList; rw [Array.mem_toList_iff]; exact Array.getElem_mem hi)
      exact decide_eq_true (by omega)
    rw [List.map_cons]
    refine ⟨by simp only [PyData.canLayAll0, PyData.canLay0, so, h1, Bool.and_self], by simp only [PyData.depthAll, PyData.depth, h2]; rfl, ?_, by simp only [PyData.showableAll, PyData.showable, h4, Bool.and_self], by simp only [PyData.hasDictAll, PyData.hasDict, h5, Bool.or_self], by simp only [PyData.intsShortAll, PyData.intsShort, h6, Bool.and_self]⟩
    simp only [PyData.weightAll, PyData.weight, List.length_cons]
    omega
theorem str_shown {ws : List Str} (h : ∀ u ∈ ws, (tl u).length ≤ 20 ∧ ∀ c ∈ tl u, c < 128) (hl : ws.length ≤ 1000) : (strD ws).showable = true ∧ (strD ws).hasDict = false ∧ (strD ws).depth ≤ 64 ∧ (strD ws).shown.length ≤ sizeLine := by
  obtain ⟨h1, h2, h3, h4, h5, h6⟩ := str_ok ws h
  have d1 : (strD ws).depth = 1 := by
    unfold strD
    simp only [PyData.depth, h2]
  refine ⟨by unfold strD; simp only [PyData.showable, h4], by unfold strD; simp only [PyData.hasDict, h5], by omega, ?_⟩
  have lay : PyData.layable0 (strD ws) = true := by
    unfold PyData.layable0
    rw [Bool.and_eq_true, Bool.and_eq_true]
    refine ⟨⟨by unfold strD; simp only [PyData.canLay0, h1], decide_eq_true (by omega)⟩, decide_eq_true ?_⟩
    unfold strD
    simp only [PyData.weight]
    omega
  have := shown_le13 lay (by unfold strD; simp only [PyData.intsShort, h6])
  rw [sizeLine_eq]
  omega
theorem str_shaped {ws : List Str} (h : ∀ u ∈ ws, (tl u).length ≤ 20 ∧ ∀ c ∈ tl u, c < 128) : SeqAt.shaped (strD ws) = true := by
  obtain ⟨h1, h2, _⟩ := str_ok ws h
  unfold SeqAt.shaped strD
  rw [Bool.and_eq_true]
  exact ⟨by simp only [PyData.canLay0, h1], decide_eq_true (by simp only [PyData.depth, h2]; omega)⟩
theorem str_eqv {ws : List Str} (h : ∀ u ∈ ws, (tl u).length ≤ 20 ∧ ∀ c ∈ tl u, c < 128) : PyData.eqv (strD ws) (strD ws) = true := by
  obtain ⟨h1, _⟩ := str_ok ws h
  exact PySem.SeqAt.eqv_refl _ (by unfold strD; simp only [PyData.canLay0, h1])
theorem str_eqv_nil (ws : List Str) : PyData.eqv (strD ws) (.list []) = ws.isEmpty := by
  unfold strD
  cases ws <;> simp [PyData.eqv, PyData.eqvAll]
end DW
/-! minimal_words -/
namespace DW
open PySem PySem.Spec PyProof.Rows L2 TL
set_option autoImplicit false
theorem at_strs {ws : List Str} {j : Nat} {x : V} (h : (ws.map V.str)[j]? = some x) : ∃ u, ws[j]? = some u ∧ x = V.str u := by
  rw [List.getElem?_map] at h
  cases q : ws[j]? with
  | none => rw [q] at h; cases h
  | some u => rw [q] at h; exact ⟨u, rfl, (Option.some.inj h).symm⟩
def spHp (K : PySem.W.Frag) : Sp := fun vs H Q _ => ∃ (x : Str) (l : Addr) (ws : List Str), vs = [.str x, .ref l] ∧ SqL K H l (ws.map V.str) ∧ (tl x).length ≤ 1000 ∧ (∀ u ∈ ws, (tl u).length ≤ 1000) ∧ ∀ H', Same H H' → Q (.bl (ws.any (propB x))) H'
def spSlx (K : PySem.W.Frag) : Sp := fun vs H Q _ => ∃ (l : Addr) (ws : List Str), vs = [.ref l] ∧ SqL K H l (ws.map V.str) ∧ ws.length < 64 ∧ (∀ u ∈ ws, (tl u).length ≤ 1000) ∧ ∀ H' p ys, Same H H' → H p = none → H' p = some (.lst (ys.map V.str)) → ys.length ≤ ws.length → Slx ws ys → Q (.ref p) H'
def spMin (K : PySem.W.Frag) : Sp := fun vs H Q _ => ∃ (l : Addr) (ws : List Str), vs = [.ref l] ∧ SqL K H l (ws.map V.str) ∧ ws.length < 64 ∧ (∀ u ∈ ws, (tl u).length ≤ 1000) ∧ ∀ H' p ys, Same H H' → H p = none → H' p = some (.lst ((ys.filter (kept ws)).map V.str)) → Slx ws ys → ys.length ≤ ws.length → Q (.ref p) H'
theorem SqL.keep {K : PySem.W.Frag} {H H' : Hp} {a : Addr} {xs : List V} (h : SqL K H a xs) (s : Same H H') : SqL K H' a xs := by
  rcases h with (h | ⟨q, h⟩) | h
  · exact .inl (.inl (s _ _ h))
  · exact .inl (.inr ⟨q, s _ _ h⟩)
  · exact .inr h
section
variable {P : Program} {w : World} {K : PySem.W.Frag} {mg : Str → Option Value} {base : Heap}
theorem scHp : FnScope ["word", "words", "shorter"] ["word", "words"] (defScope sHasProperSubword) := ⟨rfl, rfl, rfl, by decide +kernel, rfl, by decide +kernel, by decide +kernel⟩
theorem ok_hp (D : Df K mg "has_proper_subword" sHasProperSubword ["word", "words"]) (Ds0 : Df K mg "is_subword" sIsSubword ["word", "other"]) (Df0 : Df K mg "first_positions" sFirstPositions ["word", "other"]) (mt : mg "tuple" = none) (ml : mg "len" = none) : FnOk P w K mg base CX0 3 D.f D.fd ["word", "words"] (spHp K) := by
  have Gs : FnOk P w K mg base CX0 2 Ds0.f Ds0.fd ["word", "other"] spSubP := ok_subp Ds0 Df0 mt
  refine D.F.ok scHp (fun vs H Q E h => ?_) (fun cdv A outer s H vs Q E hr h => ?_)
  · obtain ⟨x, l, ws, rfl, _⟩ := h
    rfl
  · obtain ⟨x, l, ws, rfl, hl, xl, wl, k⟩ := h
    have sz : ∀ y : Str, y.length = (tl y).length := fun y => (Array.length_toList).symm
    refine ⟨_, PSs.nox (pss_cons (ps_for PassesOwn.never rfl (pi_list (pv 1)) (pg_name (i := 2) scHp.nd rfl (.inl rfl)) (pss_one (ps_if (pw_and (pt_cmpR op_lt (pe_callB call_len_str (by rfl) ml PySem.boot_len (pa_cons (pv 2) pa_nil)) (pe_callB call_len_str (by rfl) ml PySem.boot_len (pa_cons (pv 0) pa_nil)) (nomark _)) (pw_and1 (pt_val (pe_call Gs hr (by rfl) Ds0.g Ds0.F.kp Ds0.b .nil pass0 (pa_cons (pv 2) (pa_cons (pv 0) pa_nil)))))).pt (pss_one (ps_ret pe_bl)) pss_nil))) (pss_one (ps_ret pe_bl))), ?_⟩
    refine ⟨.ref l, rfl, l, rfl, ⟨_, hl⟩, for_it (walk_list (xs := ws.map V.str)) (fun i σ H' => ∃ y2, σ = [some (.str x), some (.ref l), y2] ∧ (ws.take i).any (propB x) = false ∧ Same H H') ⟨_, rfl, rfl, Same.refl H⟩ (fun _ _ _ _ ⟨_, _, _, s⟩ => SqL.keep hl s) ?_ ?_⟩
    · rintro i v σ G G' hi ⟨y2, rfl, no, sm⟩ ⟨rfl, hv⟩
      obtain ⟨u, hu, rfl⟩ := at_strs hv
      have ul := wl u (List.mem_of_getElem? hu)
      have tk : (ws.take (i + 1)).any (propB x) = propB x u := by
        rw [List.take_add_one, hu, List.any_append, no]
        simp
      have yes : propB x u = true → ws.any (propB x) = true := fun h => List.any_eq_true.mpr ⟨u, List.mem_of_getElem? hu, h⟩
      refine ⟨.str u, rfl, u, rfl, by rw [sz, sizeLine_eq]; omega, .str x, rfl, x, rfl, by rw [sz, sizeLine_eq]; omega, _, _, rfl, rfl, _, rfl, ite2 (fun e => ?_) (fun e => ?_)⟩
      · have lt : (tl u).length < (tl x).length := by
          have := of_decide_eq_true e
          rw [sz, sz] at this
          omega
        refine ⟨.str u, rfl, .str x, rfl, u, x, rfl, ul, xl, fun H2 b s2 hb => ⟨b, rfl, ite2 (fun e2 => ?_) (fun e2 => ?_)⟩⟩
        · have := k _ (sm.trans s2)
          rw [yes (prop_iff.mpr ⟨lt, hb.mp e2⟩)] at this
          exact this
        · refine ⟨_, rfl, ?_, sm.trans s2⟩
          rw [tk]
          cases q : propB x u with
          | false => rfl
          | true => exact absurd (hb.mpr (prop_iff.mp q).2) e2
      · refine iteF ⟨_, rfl, ?_, sm⟩
        rw [tk]
        cases q : propB x u with
        | false => rfl
        | true =>
          have h := (prop_iff.mp q).1
          exact absurd (decide_eq_true (by rw [sz, sz]; omega)) e
    · rintro σ G ⟨y2, rfl, no, sm⟩
      rw [List.length_map, List.take_length] at no
      have := k _ sm
      rw [no] at this
      exact this
theorem scSo : FnScope ["words"] ["words"] (defScope sInShortlexOrder) := ⟨rfl, rfl, rfl, by decide +kernel, rfl, by decide +kernel, by decide +kernel⟩
theorem ok_so (D : Df K mg "in_shortlex_order" sInShortlexOrder ["words"]) (B : Bl mg) : FnOk P w K mg base CX0 1 D.f D.fd ["words"] (spSlx K) := by
  refine D.F.ok scSo (fun vs H Q E h => ?_) (fun cdv A outer s H vs Q E hr h => ?_)
  · obtain ⟨l, ws, rfl, _⟩ := h
    rfl
  · obtain ⟨l, ws, rfl, hl, w64, wl, k⟩ := h
    have hu : A.units + 3 + 66 < cLine := by
      have h1 := hr.un
      have h2 : A.units + 3 + 16 * 0 + 200 < cLine := h1
      omega
    refine ⟨_, (pss_one (ps_ret (SL.pe_sortedLen hu (by rfl) B.sorted (by rfl) B.len (pa_cons (pe_callB (TX.cr_sortTx rfl) (by rfl) B.sorted (by decide +kernel) (pa_cons (pe_callTy (TX.cr_setL rfl) (by rfl) B.set (by decide +kernel) (pa_cons (pv 0) pa_nil)) pa_nil)) pa_nil)))), ?_⟩
    refine ⟨.ref l, rfl, l, ws, rfl, hl, by unfold scanBound; omega, fun a ls ea nd mem le => ?_⟩
    have sa := same_upd (o := TX.SetTx P w a ls) ea
    refine ⟨a, ls, rfl, upd_same, by omega, fun ys p pm so hp => ?_⟩
    have sp := same_upd (o := .lst (ys.map V.str)) hp
    have my : ∀ u, u ∈ ys → u ∈ ws := fun u hu => (mem u).mp (pm.mem_iff.mp hu)
    have yl : ys.length ≤ ws.length := by rw [pm.length_eq]; exact le
    refine ⟨p, ys, rfl, SqL.of upd_same, fun u hu => ?_, by rw [sizeLine_eq]; omega, fun q hq => ?_⟩
    · have := wl u (my u hu)
      rw [show u.length = (tl u).length from (Array.length_toList).symm, sizeLine_eq]
      omega
    · have sq := same_upd (o := .lst ((SL.byLen ys).map V.str)) hq
      refine k _ q _ ((sa.trans sp).trans sq) ((sa.trans sp).free hq) upd_same ?_ (slx_of nd mem pm so)
      unfold SL.byLen
      rw [List.length_mergeSort]
      exact yl
theorem scMin : FnScope ["words", "minimal", "word"] ["words"] (defScope sMinimalWords) := ⟨rfl, rfl, rfl, by decide +kernel, rfl, by decide +kernel, by decide +kernel⟩
theorem ok_min (D : Df K mg "minimal_words" sMinimalWords ["words"]) (Di0 : Df K mg "in_shortlex_order" sInShortlexOrder ["words"]) (Dh0 : Df K mg "has_proper_subword" sHasProperSubword ["word", "words"]) (Ds0 : Df K mg "is_subword" sIsSubword ["word", "other"]) (Df0 : Df K mg "first_positions" sFirstPositions ["word", "other"]) (mt : mg "tuple" = none) (B : Bl mg) : FnOk P w K mg base CX0 4 D.f D.fd ["words"] (spMin K) := by
  have Gi : FnOk P w K mg base CX0 1 Di0.f Di0.fd ["words"] (spSlx K) := ok_so Di0 B
  have Gh : FnOk P w K mg base CX0 3 Dh0.f Dh0.fd ["word", "words"] (spHp K) := ok_hp Dh0 Ds0 Df0 mt B.len
  refine D.F.ok scMin (fun vs H Q E h => ?_) (fun cdv A outer s H vs Q E hr h => ?_)
  · obtain ⟨l, ws, rfl, _⟩ := h
    rfl
  · obtain ⟨l, ws, rfl, hl, w64, wl, k⟩ := h
    have hr1 : Room 1 _ := hr.mono (by decide)
    refine ⟨_, PSs.nox (pss_cons (ps_set (i := 1) scMin.nd rfl (.inl rfl) (pe_lst pa_nil)) (pss_cons (ps_for PassesOwn.never rfl (pi_list (pe_call Gi hr1 (by rfl) Di0.g Di0.F.kp Di0.b .nil pass0 (pa_cons (pv 0) pa_nil))) (pg_name (i := 2) scMin.nd rfl (.inl rfl)) (pss_one (ps_if (pt_not (pt_val (pe_call Gh hr (by rfl) Dh0.g Dh0.F.kp Dh0.b .nil pass0 (pa_cons (pv 2) (pa_cons (pv 1) pa_nil))))) (pss_one (ps_expr (pe_bm PySem.F.plainAttrs_list PySem.F.slot_list_append PySem.F.type_list_append mt_append (pv 1) (pa_cons (pv 2) pa_nil)))) pss_nil))) (pss_one (ps_ret (pv 1))))), ?_⟩
    refine ⟨Nat.zero_le _, fun m hm => ?_⟩
    have sm0 := same_upd (o := .lst []) hm
    refine ⟨.ref l, rfl, l, ws, rfl, SqL.keep hl sm0, w64, wl, fun H1 p ys s1 p0 hp yl S => ?_⟩
    have nmp : m ≠ p := fun e => by
      rw [← e, upd_same] at p0
      cases p0
    refine ⟨p, rfl, ⟨_, SqL.of hp⟩, for_it (walk_list (xs := ys.map V.str)) (fun i σ H' => ∃ y2, σ = [some (.ref l), some (.ref m), y2] ∧ H' m = some (.lst (((ys.take i).filter (kept ws)).map V.str)) ∧ H' p = some (.lst (ys.map V.str)) ∧ Same H H') ⟨_, rfl, s1 _ _ upd_same, hp, sm0.trans s1⟩ (fun _ _ _ _ ⟨_, _, _, h, _⟩ => SqL.of h) ?_ ?_⟩
    · rintro i v σ G G' hi ⟨y2, rfl, gm, gp, sm⟩ ⟨rfl, hv⟩
      obtain ⟨u, hu, rfl⟩ := at_strs hv
      have um := wl u ((S.mem u).mp (List.mem_of_getElem? hu))
      refine ⟨.str u, rfl, .ref m, rfl, u, m, _, rfl, SqL.of gm, um, fun x hx => wl x ((S.mem x).mp (List.mem_of_mem_take (List.mem_filter.mp hx).1)), fun H2 s2 => ?_⟩
      rw [kept_step S hu]
      have tk : (ys.take (i + 1)).filter (kept ws) = (ys.take i).filter (kept ws) ++ if kept ws u = true then [u] else [] := by
        rw [List.take_add_one, hu, List.filter_append]
        congr 1
        show List.filter _ [u] = _
        rw [List.filter_cons]
        rfl
      refine ⟨_, rfl, ?_⟩
      cases q : kept ws u with
      | true =>
        have fl : ((ys.take i).filter (kept ws)).length ≤ 64 := Nat.le_trans (List.length_filter_le _ _) (by rw [List.length_take]; omega)
        refine ⟨.ref m, rfl, .inl ⟨rfl, _, SqL.of (s2 _ _ gm)⟩, .str u, rfl, m, _, _, rfl, rfl, s2 _ _ gm, ?_, _, rfl, ?_, (upd_ne nmp.symm).trans (s2 _ _ gp), fun b o e => (upd_ne (ne_of_none e hm)).trans ((sm.trans s2) _ _ e)⟩
        · rw [List.length_map, sizeLine_eq]
          omega
        · rw [upd_same, tk, q, if_pos rfl, List.map_append]
          rfl
      | false =>
        refine ⟨_, rfl, ?_, s2 _ _ gp, sm.trans s2⟩
        rw [tk, q]
        simpa using s2 _ _ gm
    · rintro σ G ⟨y2, rfl, gm, gp, sm⟩
      rw [List.length_map, List.take_length] at gm
      exact ⟨.ref m, rfl, k _ m ys sm hm gm S yl⟩
end
end DW
namespace DW
open PySem PySem.Spec PyProof.Rows L2 TL
set_option autoImplicit false
theorem nil_shaped : SeqAt.shaped (.list []) = true := by decide +kernel
theorem cut_mem {x : Str} {lo hi : Option Int} {c : Nat} (h : c ∈ tl (cutS x lo hi)) : c ∈ tl x :=
  List.mem_of_mem_drop (List.mem_of_mem_take (show c ∈ (x.cps.toList.drop (HT.sIx x.length 0 lo)).take (HT.sIx x.length x.length hi - HT.sIx x.length 0 lo) from h))
def Wd (n : Nat) (u : Str) : Prop := (tl u).length ≤ n ∧ ∀ c ∈ tl u, c < 128
section
variable {P : Program} {w : World} {K : PySem.W.Frag} {mg : Str → Option Value} {base : Heap}
structure Ds (K : PySem.W.Frag) (mg : Str → Option Value) where
  p_first_positions : Df K mg "first_positions" sFirstPositions ["word", "other"]
  p_is_subword : Df K mg "is_subword" sIsSubword ["word", "other"]
  p_has_proper_subword : Df K mg "has_proper_subword" sHasProperSubword ["word", "words"]
  p_in_shortlex_order : Df K mg "in_shortlex_order" sInShortlexOrder ["words"]
  p_minimal_words : Df K mg "minimal_words" sMinimalWords ["words"]
  begin : Df K mg "_law_begin" sBegin ["_law_script"]
  draw : Df K mg "_law_draw" sDraw ["_law_tape", "_law_many"]
  pick : Df K mg "_law_pick" sPick ["_law_tape", "_law_items"]
  alphabet : Df K mg "_law_alphabet" sAlpha ["_law_tape"]
  word : Df K mg "_law_word" sWord ["_law_tape", "_law_alphabet_here", "_law_longest"]
  is_subword : Df K mg "_law_is_subword" sLIsSubword ["_law_word_here", "_law_other"]
  B : Bl mg
  b_tuple : mg "tuple" = none
  b_list : mg "list" = none
  b_repr : mg "repr" = none
def spLaw (K : PySem.W.Frag) : Sp := fun vs H Q _ => ∃ (a : Addr) (ns : List Int), vs = [.ref a] ∧ SqL K H a (ns.map V.int) ∧ ∀ H', Q (.bl true) H'
theorem scLaw : FnScope ["_law_script", "_law_tape", "_law_turn", "_law_alphabet_here", "_law_words", "_law_word_here", "_law_place", "_law_kept", "_law_due", "_law_again", "_law_found", "_law_k", "_law_one"] ["_law_script"] (defScope sLaw) := ⟨rfl, rfl, rfl, by decide +kernel, rfl, by decide +kernel, by decide +kernel⟩
theorem ok_law (D : Df K mg "law" sLaw ["_law_script"]) (S : Ds K mg) : GA.FnAt P w K mg base D.f D.fd ["_law_script"] (spLaw K) := by
  have Gb : FnOk P w K mg base CX0 1 S.begin.f S.begin.fd ["_law_script"] (spBegin K) := ok_begin S.begin
  have Gd : FnOk P w K mg base CX0 1 S.draw.f S.draw.fd ["_law_tape", "_law_many"] spDraw := ok_draw S.draw S.B.len
  have Gp : FnOk P w K mg base CX0 2 S.pick.f S.pick.fd ["_law_tape", "_law_items"] (spPick K) := ok_pick S.pick S.draw S.B.len
  have Ga : FnOk P w K mg base CX0 3 S.alphabet.f S.alphabet.fd ["_law_tape"] spAlpha := ok_alpha S.alphabet S.draw S.pick S.B
  have Go : FnOk P w K mg base CX0 3 S.word.f S.word.fd ["_law_tape", "_law_alphabet_here", "_law_longest"] spWord := ok_word S.word S.draw S.pick S.B
  have Gu : FnOk P w K mg base CX0 1 S.is_subword.f S.is_subword.fd ["_law_word_here", "_law_other"] spSubL := ok_subl S.is_subword
  have Gm : FnOk P w K mg base CX0 4 S.p_minimal_words.f S.p_minimal_words.fd ["words"] (spMin K) := ok_min S.p_minimal_words S.p_in_shortlex_order S.p_has_proper_subword S.p_is_subword S.p_first_positions S.b_tuple S.B
  refine GA.okAt (k := 4) D.F scLaw ⟨rfl, by decide, by decide⟩ (fun vs H Q E h => ?_) (fun cdv s H vs Q E hr h => ?_)
  · obtain ⟨a, ns, rfl, _⟩ := h
    rfl
  · obtain ⟨a, ns, rfl, hS, k⟩ := h
    have hr1 : Room 1 _ := hr.mono (by decide)
    have hr2 : Room 2 _ := hr.mono (by decide)
    have hr3 : Room 3 _ := hr.mono (by decide)
    have hu0 : (callerA.deeper (envOfC "law" (defScope sLaw) s.heap.objs.size D.f cdv)).units + 66 < cLine := by have := hr.un; omega
    have rR : CallR (cxOf CX0 P w K mg base ["_law_script", "_law_tape", "_law_turn", "_law_alphabet_here", "_law_words", "_law_word_here", "_law_place", "_law_kept", "_law_due", "_law_again", "_law_found", "_law_k", "_law_one"] "law" (defScope sLaw) D.f cdv callerA [] s H E).nox (.builtin "repr") (fun xs H Q => ∃ (a : Addr) (d : PyData), xs = [.ref a] ∧ Dp K H (.ref a) d ∧ d.showable = true ∧ d.hasDict = false ∧ d.depth ≤ 64 ∧ d.shown.length ≤ sizeLine ∧ Q (.str d.shown) H) := GA.cr_reprD rfl hu0
    have hu : (cxOf CX0 P w K mg base ["_law_script", "_law_tape", "_law_turn", "_law_alphabet_here", "_law_words", "_law_word_here", "_law_place", "_law_kept", "_law_due", "_law_again", "_law_found", "_law_k", "_law_one"] "law" (defScope sLaw) D.f cdv callerA [] s H E).nox.A.units + 66 < cLine := hu0
    refine ⟨_, PSs.nox (pss_cons (ps_set (i := 1) scLaw.nd rfl (.inr rfl) (pe_call Gb hr1 (by rfl) S.begin.g S.begin.F.kp S.begin.b .nil pass0 (pa_cons (pv 0) pa_nil))) (pss_cons (ps_for PassesOwn.never rfl (pi_range1 rfl S.B.range (pa_cons pe_int pa_nil)) (pg_name (i := 2) scLaw.nd rfl (.inl rfl)) (pss_cons (ps_set (i := 3) scLaw.nd rfl (.inr rfl) (pe_call Ga hr3 (by rfl) S.alphabet.g S.alphabet.F.kp S.alphabet.b .nil pass0 (pa_cons (pv 1) pa_nil))) (pss_cons (ps_setLc (i := 4) (own := [("_law_k", 11)]) (g := gName 11) (tt := tYes) rfl scLaw.nd rfl rfl (sw_true rfl rfl rfl (by decide +kernel)) (pi_range1 rfl S.B.range (pa_cons (pe_call Gd hr1 (by rfl) S.draw.g S.draw.F.kp S.draw.b .nil pass0 (pa_cons (pv 1) (pa_cons pe_int pa_nil))) pa_nil)) (blkOk_by (N := ["_law_script", "_law_tape", "_law_turn", "_law_alphabet_here", "_law_words", "_law_word_here", "_law_place", "_law_kept", "_law_due", "_law_again", "_law_found", "_law_k", "_law_one"]) (sc := defScope sLaw) (by decide +kernel)) (fun _ _ _ _ _ => pg_name (i := 11) scLaw.nd rfl (Or.inl rfl)) (fun _ _ _ _ _ => pts_nil) (fun _ _ _ _ _ => (pe_call Go hr3 (by rfl) S.word.g S.word.F.kp S.word.b .nil pass0 (pa_cons (pv 1) (pa_cons (pv 3) (pa_cons (pe_call Gp hr2 (by rfl) S.pick.g S.pick.F.kp S.pick.b .nil pass0 (pa_cons (pv 1) (pa_cons (pe_lst (pa_cons pe_int (pa_cons pe_int (pa_cons pe_int pa_nil)))) pa_nil))) pa_nil)))))) (pss_cons (ps_for PassesOwn.never rfl (pi_list (pe_slice sl_list (pv 4) po_none (po_some (pe_call Gd hr1 (by rfl) S.draw.g S.draw.F.kp S.draw.b .nil pass0 (pa_cons (pv 1) (pa_cons pe_int pa_nil)))))) (pg_name (i := 5) scLaw.nd rfl (.inr rfl)) (pss_cons (ps_set (i := 6) scLaw.nd rfl (.inl rfl) (pe_call Gd hr1 (by rfl) S.draw.g S.draw.F.kp S.draw.b .nil pass0 (pa_cons (pv 1) (pa_cons (pe_op op_add (pe_callB call_len_str (by rfl) S.B.len PySem.boot_len (pa_cons (pv 5) pa_nil)) pe_int) pa_nil)))) (pss_one (ps_expr (pe_bm PySem.F.plainAttrs_list PySem.F.slot_list_append PySem.F.type_list_append mt_append (pv 4) (pa_cons (pe_op op_add_str (pe_op op_add_str (pe_slice sl_str (pv 5) po_none (po_some (pv 6))) (pe_call Gp hr2 (by rfl) S.pick.g S.pick.F.kp S.pick.b .nil pass0 (pa_cons (pv 1) (pa_cons (pv 3) pa_nil)))) (pe_slice sl_str (pv 5) (po_some (pv 6)) po_none)) pa_nil)))))) (pss_cons (ps_set (i := 7) scLaw.nd rfl (.inl rfl) (pe_callTy call_list_of (by rfl) S.b_list (by decide +kernel) (pa_cons (pv 4) pa_nil))) (pss_cons (ps_set (i := 8) scLaw.nd rfl (.inl rfl) (pe_lst pa_nil)) (pss_cons (ps_for PassesOwn.never rfl (pi_list (SL.pe_sortedLen hu (by rfl) S.B.sorted (by rfl) S.B.len (pa_cons (pe_callB (TX.cr_sortTx rfl) (by rfl) S.B.sorted (by decide +kernel) (pa_cons (pe_callTy (TX.cr_setL rfl) (by rfl) S.B.set (by decide +kernel) (pa_cons (pv 4) pa_nil)) pa_nil)) pa_nil))) (pg_name (i := 5) scLaw.nd rfl (.inr rfl)) (pss_one (ps_if (pt_cmpR (op_eqD hr.units) (pe_lc (own := [("_law_one", 12)]) (g := gName 12) rfl scLaw.nd (pi_list (pv 4)) (blkOk_by (N := ["_law_script", "_law_tape", "_law_turn", "_law_alphabet_here", "_law_words", "_law_word_here", "_law_place", "_law_kept", "_law_due", "_law_again", "_law_found", "_law_k", "_law_one"]) (sc := defScope sLaw) (by decide +kernel)) (fun _ _ _ _ _ => pg_name (i := 12) scLaw.nd rfl (Or.inl rfl)) (fun _ _ _ _ _ => (pts_one (pw_and (pt_cmpR op_ne (pv 12) (pv 5) (nomark _)) (pw_and1 (pt_val (pe_call Gu hr1 (by rfl) S.is_subword.g S.is_subword.F.kp S.is_subword.b .nil pass0 (pa_cons (pv 12) (pa_cons (pv 5) pa_nil)))))).pt)) (fun _ _ _ _ _ => (pv 12))) (pe_lst pa_nil) (nomark _)) (pss_one (ps_expr (pe_bm PySem.F.plainAttrs_list PySem.F.slot_list_append PySem.F.type_list_append mt_append (pv 8) (pa_cons (pv 5) pa_nil)))) pss_nil))) (pss_one (ps_for PassesOwn.never rfl (pi_range1 rfl S.B.range (pa_cons pe_int pa_nil)) (pg_name (i := 9) scLaw.nd rfl (.inl rfl)) (pss_cons (ps_set (i := 10) scLaw.nd rfl (.inl rfl) (pe_call Gm hr (by rfl) S.p_minimal_words.g S.p_minimal_words.F.kp S.p_minimal_words.b .nil pass0 (pa_cons (pv 4) pa_nil))) (pss_cons (ps_if (pw_or (pt_cmpR op_ne (pe_callB rR (by rfl) S.b_repr (by decide +kernel) (pa_cons (pv 10) pa_nil)) (pe_callB rR (by rfl) S.b_repr (by decide +kernel) (pa_cons (pv 8) pa_nil)) (nomark _)) (pw_or1 (pt_cmpR (op_neD hr.units) (pv 4) (pv 7) (nomark _)))).pt (pss_one (ps_ret pe_bl)) pss_nil) (pss_one (ps_expr (pe_bm PySem.F.plainAttrs_list PySem.F.slot_list_append PySem.F.type_list_append mt_append (pv 10) (pa_cons pe_str pa_nil))))))))))))))) (pss_one (ps_ret pe_bl)))), ?_⟩
    refine ⟨.ref a, rfl, a, ns, rfl, hS, fun H0 t c s0 ht hc T0 => ?_⟩
    refine ⟨3, rfl, by decide, by decide, for_it walk_range (fun i σ H' => ∃ y2 y3 y4 y5 y6 y7 y8 y9 y10, σ = [some (.ref a), some (.ref t), y2, y3, y4, y5, y6, y7, y8, y9, y10, none, none] ∧ Tape H' t c (40000 * i)) ⟨_, _, _, _, _, _, _, _, _, rfl, T0⟩ (fun _ _ _ _ _ => trivial) ?_ ?_⟩
    · rintro i x σ G G' hi ⟨y2, y3, y4, y5, y6, y7, y8, y9, y10, rfl, T⟩ ⟨rfl, rfl⟩
      refine ⟨.ref t, rfl, t, c, 40000 * i, rfl, T, by omega, fun H1 z k1 T1 al => ?_⟩
      have zl : z.length = (tl z).length := (Array.length_toList).symm
      have z1 := al.2.1
      have z3 := al.2.2.1
      have zlow := al.2.2.2
      have sz : ∀ y : Str, y.length = (tl y).length := fun y => (Array.length_toList).symm
      -- words
      refine ⟨.ref t, rfl, t, c, 13, _, rfl, T1, by omega, by decide, by decide, fun H2 r k2 T2 r0 r1 => ?_⟩
      refine ⟨r, rfl, by omega, by omega, fun O hO => ?_⟩
      have O1 := T2.ne1 hO
      have O2 := T2.ne2 hO
      refine lc_range (lo := 0) (n := r.toNat) (fun j H' => ∃ (ws : List Str), ws.length = j ∧ H' O = some (.lst (ws.map V.str)) ∧ (∀ u ∈ ws, Wd 6 u) ∧ Tape H' t c (40000 * i + 100 + 1000 * j)) ?_ ?_ ?_
      · exact ⟨[], rfl, upd_same, fun u hu => (nomatch hu), (T2.upd O1 O2).mono (by omega)⟩
      · rintro j M hj ⟨ws, wl, gO, hw, TM⟩
        refine ⟨rfl, yes ?_⟩
        refine ⟨.ref t, rfl, .str z, rfl, .ref t, rfl, by show 3 ≤ sizeLine; decide, fun l1 e1 => ?_⟩
        have s1 := same_upd (o := .lst [V.int 2, V.int 4, V.int 6]) e1
        refine ⟨t, c, _, .ref l1, rfl, TM.same s1, by omega, .inl ⟨l1, _, rfl, SqL.of upd_same, by simp, by show 3 < 2 ^ 30; decide, fun M2 y k3 T3 hy => ?_⟩⟩
        obtain ⟨m, rfl, m0, m1⟩ : ∃ m : Int, y = .int m ∧ 0 ≤ m ∧ m ≤ 6 := by
          simp only [List.mem_cons, List.not_mem_nil, or_false] at hy
          rcases hy with e | e | e
          · exact ⟨2, e, by decide, by decide⟩
          · exact ⟨4, e, by decide, by decide⟩
          · exact ⟨6, e, by decide, by decide⟩
        refine ⟨t, c, _, z, m, rfl, T3, by omega, al, m0, by omega, fun M3 u k4 T4 uov ul => ?_⟩
        have gO4 := k4.at (k3.at (s1 _ _ gO) (fun _ z => by cases z)) (fun _ z => by cases z)
        refine ⟨_, gO4, ?_, ws ++ [u], by rw [List.length_append, wl]; rfl, ?_, fun x hx => ?_, (T4.upd O1 O2).mono (by omega)⟩
        · rw [List.length_map, wl, sizeLine_eq]
          omega
        · rw [upd_same, List.map_append]
          rfl
        · rcases List.mem_append.mp hx with q | q
          · exact hw x q
          · rw [List.mem_singleton.mp q]
            refine ⟨by omega, fun c hc => ?_⟩
            have := zlow c (uov c hc)
            omega
      rintro M ⟨ws0, wl0, gO, hw0, TM⟩
      -- longer ones
      refine ⟨.ref O, rfl, .ref t, rfl, t, c, 4, _, rfl, TM, by omega, by decide, by decide, fun M1 r2 kM1 TM1 r20 r21 => ?_⟩
      have gO1 := kM1.at gO (fun _ z => by cases z)
      refine ⟨r2, rfl, O, _, rfl, SqL.of gO1, fun p hp => ?_⟩
      have sp := same_upd (o := .lst (cutV (ws0.map V.str) none (some r2))) hp
      have cl := cutV_length (ws0.map V.str) none (some r2)
      rw [List.length_map] at cl
      have nOp : O ≠ p := ne_of_none gO1 hp
      have p1 := TM1.ne1 hp
      have p2 := TM1.ne2 hp
      refine ⟨p, rfl, ⟨_, SqL.of upd_same⟩, for_it (walk_list (xs := cutV (ws0.map V.str) none (some r2))) (fun n σ H' => ∃ (ws : List Str) (y5 y6 : Option V), σ = [some (.ref a), some (.ref t), some (.int (0 + (i : Int))), some (.str z), some (.ref O), y5, y6, y7, y8, y9, y10, none, none] ∧
        H' O = some (.lst (ws.map V.str)) ∧ H' p = some (.lst (cutV (ws0.map V.str) none (some r2))) ∧ ws.length = ws0.length + n ∧ (∀ u ∈ ws, Wd 20 u) ∧ Tape H' t c (40000 * i + 20000 + 10 * n)) ⟨ws0, _, _, rfl, sp _ _ gO1, upd_same, rfl, fun u hu => ⟨Nat.le_trans (hw0 u hu).1 (by decide), (hw0 u hu).2⟩, (TM1.upd p1 p2).mono (by omega)⟩ (fun _ _ _ _ ⟨_, _, _, _, _, h, _⟩ => SqL.of h) ?_ ?_⟩
      · rintro n v σ G1 G2 hn ⟨ws, y5, y6, rfl, g1, g2, wl, hw, TG⟩ ⟨rfl, hv⟩
        obtain ⟨u, hu, rfl⟩ : ∃ u, u ∈ ws0 ∧ v = V.str u := by
          have q := List.mem_of_getElem? hv
          have q2 : v ∈ ws0.map V.str := List.mem_of_mem_drop (List.mem_of_mem_take q)
          obtain ⟨u, hu, e⟩ := List.mem_map.mp q2
          exact ⟨u, hu, e.symm⟩
        have hu6 := hw0 u hu
        have ul := hu6.1
        refine ⟨.ref t, rfl, .str u, rfl, u, rfl, by rw [sz, sizeLine_eq]; omega, _, 1, rfl, rfl, t, c, _, _, rfl, TG, by omega, by omega, by rw [sz]; omega, fun N1 pl kN1 TN1 pl0 pl1 => ?_⟩
        have g1a := kN1.at g1 (fun _ z => by cases z)
        have g2a := kN1.at g2 (fun _ z => by cases z)
        refine ⟨.ref O, rfl, .inl ⟨rfl, _, SqL.of g1a⟩, .str u, rfl, .int pl, rfl, pl, rfl, u, rfl, by rw [sz, sizeLine_eq]; omega, ?_⟩
        have c1 := cutS_length u none (some pl)
        refine ⟨.ref t, rfl, .str z, rfl, t, c, _, .str z, rfl, TN1, by omega, .inr ⟨z, rfl, by omega, by omega, fun N2 d kN2 TN2 hd => ?_⟩⟩
        have g1b := kN2.at g1a (fun _ z => by cases z)
        have g2b := kN2.at g2a (fun _ z => by cases z)
        rw [sz u] at c1
        refine ⟨_, ⟨#[d]⟩, rfl, rfl, by rw [sizeLine_eq]; show _ + 1 ≤ _; omega, ?_⟩
        refine ⟨.str u, rfl, .int pl, rfl, pl, rfl, ?_⟩
        unfold tNoPart
        refine ⟨u, rfl, by rw [sz, sizeLine_eq]; omega, ?_⟩
        have c2 := cutS_length u (some pl) none
        rw [sz u] at c2
        have e1 : (cutS u none (some pl) ++ (⟨#[d]⟩ : Str)).length = (cutS u none (some pl)).length + 1 := by
          rw [sz, sz, tl_app, List.length_append]
          rfl
        refine ⟨_, _, rfl, rfl, by rw [e1, sizeLine_eq]; omega, ?_⟩
        refine ⟨O, _, _, rfl, rfl, g1b, ?_, ws ++ [cutS u none (some pl) ++ ⟨#[d]⟩ ++ cutS u (some pl) none], _, _, rfl, ?_, (upd_ne nOp.symm).trans g2b, by rw [List.length_append, wl]; rfl, fun x hx => ?_, (TN2.upd O1 O2).mono (by omega)⟩
        · rw [List.length_map, wl, sizeLine_eq]
          omega
        · rw [upd_same, List.map_append]
          rfl
        · rcases List.mem_append.mp hx with q | q
          · exact hw x q
          · rw [List.mem_singleton.mp q]
            refine ⟨?_, fun c hc => ?_⟩
            · rw [tl_app, List.length_append, ← sz, ← sz, e1]
              omega
            · rw [tl_app, tl_app] at hc
              rcases List.mem_append.mp hc with q1 | q1
              · rcases List.mem_append.mp q1 with q2 | q2
                · exact hu6.2 c (cut_mem q2)
                · have e : c = d := List.mem_singleton.mp q2
                  have := zlow d hd
                  omega
              · exact hu6.2 c (cut_mem q1)
      rintro σ G1 ⟨ws, y5, y6, rfl, gW, _, wl, hw, TG⟩
      have w64 : ws.length < 64 := by omega
      have hw1000 : ∀ u ∈ ws, (tl u).length ≤ 1000 := fun u hu => Nat.le_trans (hw u hu).1 (by decide)
      -- kept, due
      refine ⟨.ref O, rfl, O, _, rfl, .inl (SqL.of gW), fun kp hkp => ?_⟩
      have skp := same_upd (o := .lst (ws.map V.str)) hkp
      refine ⟨Nat.zero_le _, fun dd hdd => ?_⟩
      have sdd := same_upd (o := .lst []) hdd
      have gW1 := skp _ _ gW
      refine ⟨.ref O, rfl, O, ws, rfl, SqL.of (sdd _ _ gW1), by unfold scanBound; omega, fun A1 ls ea nd mem le => ?_⟩
      have sa := same_upd (o := TX.SetTx P w A1 ls) ea
      refine ⟨A1, ls, rfl, upd_same, by omega, fun ys A2 pm so hA2 => ?_⟩
      have sA2 := same_upd (o := .lst (ys.map V.str)) hA2
      have my : ∀ u, u ∈ ys → u ∈ ws := fun u hu => (mem u).mp (pm.mem_iff.mp hu)
      have yl : ys.length ≤ ws.length := by rw [pm.length_eq]; exact le
      refine ⟨A2, ys, rfl, SqL.of upd_same, fun u hu => ?_, by rw [sizeLine_eq]; omega, fun q hq => ?_⟩
      · have := hw1000 u (my u hu)
        rw [sz, sizeLine_eq]
        omega
      have sq := same_upd (o := .lst ((SL.byLen ys).map V.str)) hq
      have SX : Slx ws (SL.byLen ys) := slx_of nd mem pm so
      have zsl : (SL.byLen ys).length ≤ ws.length := by
        unfold SL.byLen
        rw [List.length_mergeSort]
        exact yl
      generalize SL.byLen ys = zs at *
      have dd0 := hdd
      have ndq : dd ≠ q := ne_of_none (sA2 _ _ (sa _ _ (upd_same (H := upd G1 kp (.lst (ws.map V.str))) (a := dd) (o := .lst [])))) hq
      have sall := ((sdd.trans sa).trans sA2).trans sq
      refine ⟨q, rfl, ⟨_, SqL.of upd_same⟩, for_it (walk_list (xs := zs.map V.str)) (fun n σ H' => ∃ (y5 : Option V), σ = [some (.ref a), some (.ref t), some (.int (0 + (i : Int))), some (.str z), some (.ref O), y5, y6, some (.ref kp), some (.ref dd), y9, y10, none, none] ∧
        H' dd = some (.lst (((zs.take n).filter (kept ws)).map V.str)) ∧ H' q = some (.lst (zs.map V.str)) ∧ Same (upd G1 kp (.lst (ws.map V.str))) H') ⟨_, rfl, sq _ _ (sA2 _ _ (sa _ _ upd_same)), upd_same, sall⟩ (fun _ _ _ _ ⟨_, _, _, h, _⟩ => SqL.of h) ?_ ?_⟩
      · rintro n v σ N00 N0 hn ⟨y5', rfl, gd, gq, sN⟩ ⟨rfl, hv⟩
        obtain ⟨u, hu, rfl⟩ := at_strs hv
        have uw := (SX.mem u).mp (List.mem_of_getElem? hu)
        have ul := hw1000 u uw
        have gWN := sN _ _ gW1
        refine ⟨.ref O, rfl, O, rfl, ⟨_, SqL.of gWN⟩, fun L hL => ?_⟩
        have sL := same_upd (o := .lst []) hL
        refine lc_it (walk_list (K := K) (a := O) (xs := ws.map V.str)) (fun j M => M L = some (.lst (((ws.take j).filter (holdsB u)).map V.str)) ∧ Same N0 M) ⟨upd_same, sL⟩ (fun _ _ _ ⟨_, s⟩ => SqL.of (s _ _ gWN)) ?_ ?_
        · rintro j x M M' hj ⟨gL, sM⟩ ⟨rfl, hx⟩
          obtain ⟨o, ho, rfl⟩ := at_strs hx
          have ol := hw1000 o (List.mem_of_getElem? ho)
          have tk : (ws.take (j + 1)).filter (holdsB u) = (ws.take j).filter (holdsB u) ++ if holdsB u o = true then [o] else [] := by
            rw [List.take_add_one, ho, List.filter_append]
            congr 1
            show List.filter _ [o] = _
            rw [List.filter_cons]
            rfl
          have fl : ((ws.take j).filter (holdsB u)).length ≤ 64 := Nat.le_trans (List.length_filter_le _ _) (by rw [List.length_take]; omega)
          refine ⟨rfl, .str o, rfl, .str u, rfl, rfl, _, rfl, ite2 (fun e => ?_) (fun e => ?_)⟩
          · have ne : o ≠ u := fun z => by rw [z] at e; simp at e
            refine ⟨.str o, rfl, .str u, rfl, o, u, rfl, by omega, fun b hb => ⟨b, rfl, ite2 (fun e2 => ?_) (fun e2 => ?_)⟩⟩
            · have hb' : holdsB u o = true := holds_iff.mpr ⟨ne, hb.mp e2⟩
              refine ⟨_, rfl, _, gL, ?_, ?_, fun b o e => (upd_ne (ne_of_none e hL)).trans (sM _ _ e)⟩
              · rw [List.length_map, sizeLine_eq]
                omega
              · rw [upd_same, tk, hb', if_pos rfl, List.map_append]
                rfl
            · have hb' : ¬ holdsB u o = true := fun h => e2 (hb.mpr (holds_iff.mp h).2)
              refine ⟨?_, sM⟩
              rw [tk, if_neg hb', List.append_nil]
              exact gL
          · have hb' : ¬ holdsB u o = true := fun h => (holds_iff.mp h).1 (by simpa using e)
            refine iteF ⟨?_, sM⟩
            rw [tk, if_neg hb', List.append_nil]
            exact gL
        rintro M ⟨gL, sM⟩
        rw [List.length_map, List.take_length] at gL
        refine ⟨by show 0 ≤ sizeLine; decide, fun e1 he1 => ?_⟩
        have sE := same_upd (o := .lst []) he1
        have hwf : ∀ x ∈ ws.filter (holdsB u), (tl x).length ≤ 20 ∧ ∀ c ∈ tl x, c < 128 := fun x hx => hw x (List.mem_filter.mp hx).1
        refine ⟨strD (ws.filter (holdsB u)), .list [], str_dp (SqL.of (sE _ _ gL)), .lst (SqL.of upd_same) .nil, str_shaped hwf, nil_shaped, _, rfl, ?_⟩
        rw [str_eqv_nil, show (ws.filter (holdsB u)).isEmpty = kept ws u from rfl]
        have tk : (zs.take (n + 1)).filter (kept ws) = (zs.take n).filter (kept ws) ++ if kept ws u = true then [u] else [] := by
          rw [List.take_add_one, hu, List.filter_append]
          congr 1
          show List.filter _ [u] = _
          rw [List.filter_cons]
          rfl
        have fl : ((zs.take n).filter (kept ws)).length ≤ 64 := Nat.le_trans (List.length_filter_le _ _) (by rw [List.length_take]; omega)
        have sME := sM.trans sE
        refine ite2 (fun e => ?_) (fun e => ?_)
        · refine ⟨.ref dd, rfl, .inl ⟨rfl, _, SqL.of (sME _ _ gd)⟩, .str u, rfl, dd, _, _, rfl, rfl, sME _ _ gd, ?_, _, rfl, ?_, (upd_ne ndq.symm).trans (sME _ _ gq), fun b o e => (upd_ne (ne_of_none e dd0)).trans ((sN.trans sME) _ _ e)⟩
          · rw [List.length_map, sizeLine_eq]
            omega
          · rw [upd_same, tk, if_pos e, List.map_append]
            rfl
        · refine ⟨_, rfl, ?_, sME _ _ gq, sN.trans sME⟩
          rw [tk, if_neg e, List.append_nil]
          exact sME _ _ gd
      rintro σ N0 ⟨y5', rfl, gd, gq, sN⟩
      rw [List.length_map, List.take_length] at gd
      have gWN := sN _ _ gW1
      have gKN := sN _ _ (upd_same (H := G1) (a := kp) (o := .lst (ws.map V.str)))
      have TN := (TG.same skp).same sN
      have hwz : ∀ x ∈ zs.filter (kept ws), (tl x).length ≤ 20 ∧ ∀ c ∈ tl x, c < 128 := fun x hx => hw x ((SX.mem x).mp (List.mem_filter.mp hx).1)
      obtain ⟨sh1, sh2, sh3, sh4⟩ := str_shown hwz (Nat.le_trans (List.length_filter_le _ _) (by omega))
      -- twice
      refine ⟨2, rfl, by decide, by decide, for_it walk_range (fun n σ H' => ∃ y9 y10, σ = [some (.ref a), some (.ref t), some (.int (0 + (i : Int))), some (.str z), some (.ref O), y5', y6, some (.ref kp), some (.ref dd), y9, y10, none, none] ∧ Same N0 H') ⟨_, _, rfl, Same.refl N0⟩ (fun _ _ _ _ _ => trivial) ?_ ?_⟩
      · rintro n v σ M M' hn ⟨y9, y10, rfl, sM⟩ ⟨rfl, rfl⟩
        refine ⟨.ref O, rfl, O, ws, rfl, SqL.of (sM _ _ gWN), w64, hw1000, fun M2 p' zs' s2 p0 hp' S' zl' => ?_⟩
        have ez : zs' = zs := slx_uniq S' SX
        subst ez
        have s02 := sM.trans s2
        refine ⟨.ref p', rfl, p', strD _, rfl, str_dp (SqL.of hp'), sh1, sh2, sh3, sh4, .ref dd, rfl, dd, strD _, rfl, str_dp (SqL.of (s02 _ _ gd)), sh1, sh2, sh3, sh4, rfl, _, rfl, ?_⟩
        rw [show ∀ x : Str, (!decide (V.str x = V.str x)) = false from fun x => by simp]
        refine iteF ?_
        refine ⟨.ref O, rfl, .ref kp, rfl, strD ws, strD ws, str_dp (SqL.of (s02 _ _ gWN)), str_dp (SqL.of (s02 _ _ gKN)), str_shaped hw, str_shaped hw, _, rfl, ?_⟩
        rw [str_eqv hw]
        refine iteF ?_
        refine ⟨.ref p', rfl, .inl ⟨rfl, _, SqL.of hp'⟩, p', _, _, rfl, rfl, hp', ?_, _, _, rfl, fun b o e => (upd_ne (ne_of_none (sM _ _ e) p0)).trans (s02 _ _ e)⟩
        rw [List.length_map, sizeLine_eq]
        have := List.length_filter_le (kept ws) zs'
        omega
      · rintro σ M ⟨y9, y10, rfl, sM⟩
        exact ⟨_, _, _, _, _, _, _, _, _, rfl, (TN.same sM).mono (by omega)⟩
    · rintro σ H' ⟨y2, y3, y4, y5, y6, y7, y8, y9, y10, rfl, T⟩
      exact k _
end
end DW
set_option maxHeartbeats 0
namespace DW
open PySem PySem.Spec PyProof.Rows L2
def mkD (x : Str) (st : Stmt) : He.DefD := ⟨(x, none), x, x, defArgs st, defBody st, defScope st, [], []⟩
def fn : List He.DefD := [mkD "law" sLaw, mkD "first_positions" sFirstPositions, mkD "is_subword" sIsSubword, mkD "has_proper_subword" sHasProperSubword, mkD "in_shortlex_order" sInShortlexOrder, mkD "minimal_words" sMinimalWords, mkD "_law_begin" sBegin, mkD "_law_draw" sDraw, mkD "_law_pick" sPick, mkD "_law_alphabet" sAlpha, mkD "_law_word" sWord, mkD "_law_is_subword" sLIsSubword]
def fa : List He.Fa := [.glo "law", .glo "first_positions", .glo "is_subword", .glo "has_proper_subword", .glo "in_shortlex_order", .glo "minimal_words", .glo "_law_begin", .glo "_law_draw", .glo "_law_pick", .glo "_law_alphabet", .glo "_law_word", .glo "_law_is_subword", .free "tuple", .free "len", .free "sorted", .free "set", .free "range", .free "list", .free "repr"]
abbrev R : PySem.W.OpenRow := PySem.W.OpenLaw.row PySem.Challenge.rw_downwords_k03_minimal_words
abbrev hk : PySem.W.Hook := He.hookD 4 fa fn
def ob (s : PySem.W.SharedT) : He.AlD := He.obsDG 4 fa fn (HandSHeadRun.getT s)
theorem ob_eq (s : PySem.W.SharedT) : ob s = hk.obs s.abs := He.obsDG_eq (HandSHeadRun.getT_eq s)
abbrev names : List Str := ["__name__", "first_positions", "is_subword", "has_proper_subword", "in_shortlex_order", "minimal_words", "_law_begin", "_law_draw", "_law_pick", "_law_alphabet", "_law_word", "_law_is_subword"]
theorem run (w : World) : HandSHeadRun.RunEq R (PySem.W.view R.prog [13]) hk ob 4000 names w := by
  intro os
  kernel_rfl
theorem df {K : PySem.W.Frag} {h : Heap} {mg : Str → Option Value} {x : Str} {st : Stmt} {ps : List Str} (X : K.In h) (G : h.Ns mainGlobals mg) (hf : ∃ fd, FunD K x x (defArgs st) (defBody st) (defScope st) [] [] (He.fAd K (x, none)) fd) (hg : (He.Fa.glo x).ok K = true)
    (b : ∀ (kV doc pm : Value) (an : Option Addr) (cdv ct : Value) (us : List Value), us.length = ps.length → bindArgs (PySem.W.fnOf x x (defArgs st) (defBody st) (defScope st) .none kV doc pm an cdv ct) ⟨us, []⟩ = pure (ps.zip us)) :
    ∃ D : Df K mg x st ps, D.f = He.fAd K (x, none) := by
  obtain ⟨fd, F⟩ := hf
  exact ⟨⟨He.fAd K (x, none), fd, F, He.glo_ok X G hg, F.bindsN b⟩, rfl⟩
theorem facts {P : Program} {w : World} {K : PySem.W.Frag} {h : Heap} {mg : Str → Option Value} {f : Addr} (X : K.In h) (G : h.Ns mainGlobals mg) (hfa : mg ("law" : Str) = some (.ref f)) (c : He.SaysD fa fn K) :
    ∃ fd : FuncData, (∀ (s : Shared) (v : Value), BindsTo s fd ⟨[v], []⟩ [("_law_script", v)]) ∧ ∀ base : Heap, K.In base → base.Ns mainGlobals mg → GA.FnAt P w K mg base f fd ["_law_script"] (spLaw K) := by
  have e := hfa.symm.trans (He.glo_ok X G (c.fact 0 (f := .glo "law") rfl))
  cases e
  obtain ⟨D0, e0⟩ := df (st := sLaw) (ps := ["_law_script"]) X G (c.def_ 0 (d := mkD "law" sLaw) rfl) (c.fact 0 (f := .glo "law") rfl) fun _ _ _ _ _ _ us hl => match us, hl with | [_], _ => rfl
  obtain ⟨D1, e1⟩ := df (st := sFirstPositions) (ps := ["word", "other"]) X G (c.def_ 1 (d := mkD "first_positions" sFirstPositions) rfl) (c.fact 1 (f := .glo "first_positions") rfl) fun _ _ _ _ _ _ us hl => match us, hl with | [_, _], _ => rfl
  obtain ⟨D2, e2⟩ := df (st := sIsSubword) (ps := ["word", "other"]) X G (c.def_ 2 (d := mkD "is_subword" sIsSubword) rfl) (c.fact 2 (f := .glo "is_subword") rfl) fun _ _ _ _ _ _ us hl => match us, hl with | [_, _], _ => rfl
  obtain ⟨D3, e3⟩ := df (st := sHasProperSubword) (ps := ["word", "words"]) X G (c.def_ 3 (d := mkD "has_proper_subword" sHasProperSubword) rfl) (c.fact 3 (f := .glo "has_proper_subword") rfl) fun _ _ _ _ _ _ us hl => match us, hl with | [_, _], _ => rfl
  obtain ⟨D4, e4⟩ := df (st := sInShortlexOrder) (ps := ["words"]) X G (c.def_ 4 (d := mkD "in_shortlex_order" sInShortlexOrder) rfl) (c.fact 4 (f := .glo "in_shortlex_order") rfl) fun _ _ _ _ _ _ us hl => match us, hl with | [_], _ => rfl
  obtain ⟨D5, e5⟩ := df (st := sMinimalWords) (ps := ["words"]) X G (c.def_ 5 (d := mkD "minimal_words" sMinimalWords) rfl) (c.fact 5 (f := .glo "minimal_words") rfl) fun _ _ _ _ _ _ us hl => match us, hl with | [_], _ => rfl
  obtain ⟨D6, e6⟩ := df (st := sBegin) (ps := ["_law_script"]) X G (c.def_ 6 (d := mkD "_law_begin" sBegin) rfl) (c.fact 6 (f := .glo "_law_begin") rfl) fun _ _ _ _ _ _ us hl => match us, hl with | [_], _ => rfl
  obtain ⟨D7, e7⟩ := df (st := sDraw) (ps := ["_law_tape", "_law_many"]) X G (c.def_ 7 (d := mkD "_law_draw" sDraw) rfl) (c.fact 7 (f := .glo "_law_draw") rfl) fun _ _ _ _ _ _ us hl => match us, hl with | [_, _], _ => rfl
  obtain ⟨D8, e8⟩ := df (st := sPick) (ps := ["_law_tape", "_law_items"]) X G (c.def_ 8 (d := mkD "_law_pick" sPick) rfl) (c.fact 8 (f := .glo "_law_pick") rfl) fun _ _ _ _ _ _ us hl => match us, hl with | [_, _], _ => rfl
  obtain ⟨D9, e9⟩ := df (st := sAlpha) (ps := ["_law_tape"]) X G (c.def_ 9 (d := mkD "_law_alphabet" sAlpha) rfl) (c.fact 9 (f := .glo "_law_alphabet") rfl) fun _ _ _ _ _ _ us hl => match us, hl with | [_], _ => rfl
  obtain ⟨D10, e10⟩ := df (st := sWord) (ps := ["_law_tape", "_law_alphabet_here", "_law_longest"]) X G (c.def_ 10 (d := mkD "_law_word" sWord) rfl) (c.fact 10 (f := .glo "_law_word") rfl) fun _ _ _ _ _ _ us hl => match us, hl with | [_, _, _], _ => rfl
  obtain ⟨D11, e11⟩ := df (st := sLIsSubword) (ps := ["_law_word_here", "_law_other"]) X G (c.def_ 11 (d := mkD "_law_is_subword" sLIsSubword) rfl) (c.fact 11 (f := .glo "_law_is_subword") rfl) fun _ _ _ _ _ _ us hl => match us, hl with | [_, _], _ => rfl
  have b := FunD.bindsA (ps := ["_law_script"]) D0.F fun _ _ _ _ _ _ us hl => match us, hl with | [_], _ => rfl
  refine ⟨D0.fd, fun s v => b s [v] rfl, fun base _ _ => ?_⟩
  have q := ok_law (P := P) (w := w) (base := base) D0 ⟨D1, D2, D3, D4, D5, D6, D7, D8, D9, D10, D11, ⟨He.free_ok X G (c.fact 13 (f := .free "len") rfl), He.free_ok X G (c.fact 16 (f := .free "range") rfl), He.free_ok X G (c.fact 14 (f := .free "sorted") rfl), He.free_ok X G (c.fact 15 (f := .free "set") rfl)⟩, He.free_ok X G (c.fact 12 (f := .free "tuple") rfl), He.free_ok X G (c.fact 17 (f := .free "list") rfl), He.free_ok X G (c.fact 18 (f := .free "repr") rfl)⟩
  rw [e0] at q
  exact q
end DW
open PySem PySem.W PySem.Calls PyProof.Rows
theorem PySem.Challenge.cw_downwords_k03_minimal_words_holds : PySem.Challenge.rw_downwords_k03_minimal_words.Holds := by
  w_on; o_law
  refine HandSHeadRun.head_any (r := OpenLaw.row PySem.Challenge.rw_downwords_k03_minimal_words) (q := view (OpenLaw.row PySem.Challenge.rw_downwords_k03_minimal_words).prog [13]) (H := DW.hk) (ob := DW.ob) (M := 4000) (loose := DW.names) (d := HandSHeadRun.topDef (OpenLaw.row PySem.Challenge.rw_downwords_k03_minimal_words).prog 13) (kwd := []) DW.ob_eq
    (by kernel_rfl) (fun s => by kernel_rfl) DW.run (by kernel_rfl) (by kernel_rfl) (by kernel_rfl) (by rfl) (by first | assumption | decide +kernel) (by decide +kernel) ⟨rfl, rfl, rfl, rfl, rfl, by decide +kernel⟩ ?hw ?hc
  case hw => w_witness2
  case hc =>
    refine GA.walkAt (l := PySem.Challenge.rw_downwords_k03_minimal_words) (n := 63) (x := "_law_script") rfl (by decide) (by kernel_rfl) ?F
    intro w mg fa h Y G hmg0
    obtain ⟨K, KX, c⟩ := Y
    have hmg : mg ("law" : PySem.Str) = some (.ref fa) := by
      have e : (HandSHeadRun.topDef (OpenLaw.row PySem.Challenge.rw_downwords_k03_minimal_words).prog 13).name = ("law" : PySem.Str) := by kernel_rfl
      rw [← e]
      exact hmg0
    obtain ⟨fd, hb, hF⟩ := DW.facts (P := (PySem.Challenge.rw_downwords_k03_minimal_words).prog) (w := w) KX G hmg c
    exact ⟨K, fd, DW.spLaw K, KX, hb, fun H a ns hl _ hS => ⟨a, ns, rfl, hS, fun _ => rfl⟩, hF⟩
