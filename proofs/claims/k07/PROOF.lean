import PyProof.Rows.All
import Wide.All
import OpenK.AllK
import Wide.FinOn
import HandS.List
import HandS.SetTxt0
import HandS.SetFor
import HandS.Strs
import HandS.ForMost
import HandS.Flow
import HandS.Small
import HandS.Codes
import HandS.Defaults
import HandS.WordsExc
import HandS.Walk
import HandS.RaiseMore
import HandS.Conv
import HandS.Style
import KE.KStateDown
import Lean
import HandS.More
import HandS.Head0
import HandS.Head1
import HandS.Head2
import HandS.HeadEnd
import HandS.HeadHook1
import HandS.HeadHook2
import PySem.Challenge.RW_downwords_k07_whole_words_of_a_product
set_option Elab.async false
set_option linter.all false
set_option maxRecDepth 100000
set_option maxHeartbeats 2000000
/-! Sets of texts: set(list of texts), set(text), sorted(set). -/
namespace TX
open PySem PySem.Spec PyProof.Rows L2 PySem.Froz

/-! ### lists -/
theorem perm_of_sub {α : Type} [DecidableEq α] : ∀ (l ks : List α), l.Nodup → (∀ x ∈ l, x ∈ ks) → ks.length ≤ l.length → ks.Perm l
  | [], ks, _, _, hl => by
    have e : ks = [] := List.length_eq_zero_iff.mp (Nat.le_zero.mp hl)
    rw [e]
  | x :: l, ks, nd, sub, hl => by
    obtain ⟨hx, nd'⟩ := List.nodup_cons.mp nd
    have hk : x ∈ ks := sub x List.mem_cons_self
    have p1 : ks.Perm (x :: ks.erase x) := List.perm_cons_erase hk
    have l1 : (ks.erase x).length = ks.length - 1 := List.length_erase_of_mem hk
    have sub' : ∀ y ∈ l, y ∈ ks.erase x := fun y hy => by
      have ne : y ≠ x := fun e => hx (e ▸ hy)
      exact (List.mem_erase_of_ne ne).mpr (sub y (List.mem_cons_of_mem _ hy))
    have p2 := perm_of_sub l (ks.erase x) nd' sub' (by rw [l1]; rw [List.length_cons] at hl; omega)
    exact p1.trans (p2.cons x)

/-! ### the set's state -/
structure Ok (P : Program) (w : World) (D : SD) (l : List Str) : Prop where
  tx : TxOk P w D l
  up : Ris D.2.2.place.toList
  led : w.params.followText "set-order" = true ∨ D.2.2.led = true
  nd : l.Nodup
def At (P : Program) (w : World) (h : Heap) (a : Addr) (l : List Str) : Prop := ∃ D : SD, h.get? a = some (sObj "set" D) ∧ Ok P w D l

section
variable {P : Program} {w : World} {A : Around} {E : Value → Shared → Prop} {s : Shared}
theorem At.move {h h' : Heap} {a : Addr} {l : List Str} (x : At P w h a l) (k : ∀ o, h.get? a = some o → h'.get? a = some o) : At P w h' a l := by
  obtain ⟨D, hD, o⟩ := x
  exact ⟨D, k _ hD, o⟩
theorem tail_up {ep : Nat} {es : Array (Int × Value)} {t : SetTable} {b : Bool} (r : Ris t.place.toList) : Ris (tailTx ep es t b).2.2.place.toList := by
  unfold tailTx
  by_cases c : (!b && t.tooFull) = true
  · rw [if_pos c]
    exact relayAll_ris _ _ _
  · rw [if_neg c]
    exact r
theorem tail_led {ep : Nat} {es : Array (Int × Value)} {t : SetTable} {b : Bool} : (tailTx ep es t b).2.2.led = t.led := by
  unfold tailTx
  by_cases c : (!b && t.tooFull) = true
  · rw [if_pos c]
    exact relayAll_led _ _ _
  · rw [if_neg c]
def dull (t : SetTable) : SetTable := if t.plain = true then { t with plain := false } else t
theorem dull_place (t : SetTable) : (dull t).place = t.place := by
  unfold dull
  by_cases c : t.plain = true
  · rw [if_pos c]
  · rw [if_neg c]
theorem dull_led (t : SetTable) : (dull t).led = t.led := by
  unfold dull
  by_cases c : t.plain = true
  · rw [if_pos c]
  · rw [if_neg c]
theorem Ok.add {D : SD} {l : List Str} {k : Str} (u : Tok) (o : Ok P w D l) (hk : k ∉ l) : Ok P w (addTx (hashStr w k) (.str k u) D) (k :: l) := by
  obtain ⟨es, ep, t⟩ := D
  have r1 : Ris (layNew t es (hashStr w k) (.str k u)).2.1.place.toList := layNew_ris t es _ _ o.up
  have l1 : (layNew t es (hashStr w k) (.str k u)).2.1.led = t.led := layNew_led t es _ _
  have e : addTx (hashStr w k) (.str k u) (es, ep, t) = tailTx ep (layNew t es (hashStr w k) (.str k u)).1 (dull (layNew t es (hashStr w k) (.str k u)).2.1) (layNew t es (hashStr w k) (.str k u)).2.2.1 := rfl
  refine ⟨add_ok u o.tx, ?_, ?_, List.nodup_cons.mpr ⟨hk, o.nd⟩⟩
  · rw [e]
    exact tail_up (by rw [dull_place]; exact r1)
  · refine o.led.imp id fun z => ?_
    rw [e, tail_led, dull_led, l1]
    exact z
theorem add_old {a : Addr} {T : String} {D : SD} {l : List Str} {k : Str} {u : Tok} {Q : Bool → Shared → Prop} (ho : s.heap.get? a = some (sObj T D)) (o : TxOk P w D l) (hk : k ∈ l) (hb : l.length < scanBound) (h : Q false s) :
    wpAny (model P w) A (setAddHashed a (.str k u) (hashStr w k)) Q E s := by
  obtain ⟨es, ep, t⟩ := D
  have dd : (sObj T (es, ep, t)).data = .set es ep t := rfl
  have ft : t.fits es.size = true := o.fit
  have el : ElemsOf (strKind P w) es.toList := o.el
  have z : es.size = l.length := o.sz
  have b0 : es.size < scanBound := by omega
  have ky : (strKind P w).is k (.str k u) = true := is_str k u
  obtain ⟨e0, he0, q0⟩ := (o.mem k).mp hk
  unfold setAddHashed setAddHashedIn
  refine wpAny_holding (wpAny_bind (wpAny_setState_of ho dd ft ?_))
  dsimp only
  rw [byScan_of rfl b0 el]
  simp only [↓reduceIte]
  unfold setAddByScan
  refine wpAny_bind (wpAny_bind (wpAny_rule (wpAny_bind (wpAny_setScan_of (knd := strKind P w) (k := k) ky ho dd ft el ?_))))
  cases fi : List.findIdx? (fun e => (strKind P w).is k e.2) es.toList with
  | some j =>
    dsimp only
    exact wpAny_pure (wpAny_pure h)
  | none =>
    have c := List.findIdx?_eq_none_iff.mp fi e0 he0
    rw [q0] at c
    cases c

/-! ### the loop that fills it -/
theorem fill {I : Addr} {fp wr : List Addr} {G : Array GenState → Array GenState → Prop} {n : Nat} {Pv : Nat → Value → Prop} {St : Nat → Shared → Prop} {R : Result → Shared → Prop}
    (W : WalksS P w A.in1 I fp wr G n Pv St) (a : Addr) (ha : a ∉ fp) (xs : List Str) (hn : n = xs.length) (hb : xs.length + 1 < scanBound) (hv : ∀ i v, Pv i v → ∃ k t, xs[i]? = some k ∧ v = .str k t) :
    ∀ (m i : Nat) (s : Shared), n - i = m → i ≤ n → St i s → (∃ l, At P w s.heap a l ∧ l.length ≤ i ∧ ∀ k, k ∈ l ↔ k ∈ xs.take i) →
      (∀ s' l, Moved (a :: wr) G s s' → At P w s'.heap a l → (∀ k, k ∈ l ↔ k ∈ xs) → l.length ≤ n → R (.ok (.ret .none)) s') →
      codeAny (model P w) A (.builtin "set.update.loop" ⟨[.ref a, .ref I], []⟩) R s := by
  have aw : a ∉ wr := fun q => ha (W.sub _ q)
  have ww : ∀ b ∈ wr, b ∈ a :: wr := fun b q => List.mem_cons_of_mem _ q
  intro m
  induction m with
  | zero =>
    intro i s em hi st ⟨l, hA, hl, mem⟩ hR
    obtain rfl : i = n := by omega
    refine codeAny_builtin F.entry_set_update_loop ?_
    rw [Around.under_plainId F.plain_set_update_loop _]
    show wpAny _ A.in1 (pyNext (.ref I) >>= _) _ _ s
    refine wpAny_bind (W.done s _ _ st fun s' mv => ?_)
    show wpAny _ A.in1 (ret Value.none) _ _ s'
    have et : xs.take i = xs := List.take_of_length_le (by omega)
    rw [et] at mem
    exact wpAny_pure (hR s' l (mv.mono ww) (hA.move fun o e => mv.heap a o aw e) mem hl)
  | succ m ih =>
    intro i s em hi st ⟨l, hA, hl, mem⟩ hR
    have lt : i < n := by omega
    refine codeAny_builtin F.entry_set_update_loop ?_
    rw [Around.under_plainId F.plain_set_update_loop _]
    show wpAny _ A.in1 (pyNext (.ref I) >>= _) _ _ s
    refine wpAny_bind (W.item i s _ _ lt st fun v s1 hP st1 mv => ?_)
    obtain ⟨k, t, hk, rfl⟩ := hv i v hP
    obtain ⟨D, hD, oD⟩ := hA.move (h' := s1.heap) fun o e => mv.heap a o aw e
    show wpAny _ A.in1 (holding [Value.str k t] (setAdd a (.str k t)) >>= _) _ _ s1
    refine wpAny_bind (wpAny_holding ?_)
    unfold setAdd
    refine wpAny_holding (wpAny_bind ((strKind P w).pyHash (k := k) (is_str k t) ?_))
    have tk : xs.take (i + 1) = xs.take i ++ [k] := by rw [List.take_add_one, hk] <;> rfl
    by_cases kl : k ∈ l
    · refine add_old (s := { s1 with toks := s1.toks + 1 }) hD oD.tx kl (by omega) ?_
      refine wpAny_pure ⟨plainId_quiet F.plain_set_update_loop _, ih (i + 1) _ (by omega) lt (W.frame _ s1 _ _ st1 (Nat.le_succ _) fun b _ o e => e) ⟨l, ⟨D, hD, oD⟩, by omega, fun j => ?_⟩ fun s2 l2 mv2 hA2 mem2 hl2 => ?_⟩
      · rw [tk, List.mem_append, List.mem_singleton, ← mem j]
        exact ⟨.inl, fun q => q.elim id fun e => e ▸ kl⟩
      · exact hR s2 l2 (Moved.trans W.gtrans ((mv.mono ww).then_heap (Nat.le_succ _) fun b o _ e => e) mv2) hA2 mem2 hl2
    · refine add_x (s := { s1 with toks := s1.toks + 1 }) hD oD.tx kl (by omega) ?_
      have hg : (s1.heap.update a (fun _ => sObj "set" (addTx (hashStr w k) (.str k t) D))).get? a = some (sObj "set" (addTx (hashStr w k) (.str k t) D)) := get_upd _ hD rfl
      have ot : ∀ b o, b ≠ a → s1.heap.get? b = some o → (s1.heap.update a (fun _ => sObj "set" (addTx (hashStr w k) (.str k t) D))).get? b = some o :=
        fun b o ne e => (Heap.get?_update_other _ _ (Ne.symm ne)).trans e
      refine wpAny_pure ⟨plainId_quiet F.plain_set_update_loop _, ih (i + 1) _ (by omega) lt (W.frame _ s1 _ _ st1 (Nat.le_succ _) fun b q o e => ?_) ⟨k :: l, ⟨_, hg, oD.add t kl⟩, by rw [List.length_cons]; omega, fun j => ?_⟩ fun s2 l2 mv2 hA2 mem2 hl2 => ?_⟩
      · exact ot b o (fun z => ha (z ▸ q)) e
      · rw [tk, List.mem_append, List.mem_singleton, ← mem j, List.mem_cons]
        exact Or.comm
      · refine hR s2 l2 (Moved.trans W.gtrans ((mv.mono ww).then_heap (Nat.le_succ _) fun b o q e => ?_) mv2) hA2 mem2 hl2
        exact ot b o (fun z => q (z ▸ List.mem_cons_self)) e
end

/-! ### set(v) -/
abbrev fresh (w : World) : Obj := { cls := .type "set", dict := none, data := .set #[] 0 (.fresh 0 0 (!w.params.followText "set-order")) }
theorem fresh_ok {P : Program} {w : World} : Ok P w (#[], 0, .fresh 0 0 (!w.params.followText "set-order")) [] where
  tx := TxOk.nil (by rfl)
  up := List.Pairwise.nil
  led := by
    show _ ∨ (!w.params.followText "set-order") = true
    cases w.params.followText "set-order"
    · exact .inr rfl
    · exact .inl rfl
  nd := List.nodup_nil
theorem at_fresh {P : Program} {w : World} {h : Heap} {a : Addr} (e : h.get? a = some (fresh w)) : At P w h a [] := ⟨(#[], 0, .fresh 0 0 (!w.params.followText "set-order")), e, fresh_ok⟩

section
variable {P : Program} {w : World} {A : Around} {E : Value → Shared → Prop} {s : Shared}
/-- what set(v) leaves: a new object, all else as it was -/
def Left (P : Program) (w : World) (s : Shared) (xs : List Str) (s' : Shared) : Prop :=
  ∃ h' tk l, s' = { s with heap := h', toks := tk } ∧ At P w h' s.heap.objs.size l ∧ (∀ k, k ∈ l ↔ k ∈ xs) ∧ l.length ≤ xs.length ∧ ∀ b o, s.heap.get? b = some o → h'.get? b = some o
set_option maxHeartbeats 4000000 in
theorem call_set_of {v : Value} {xs : List Str} {Q : Value → Shared → Prop}
    (hI : ∀ A' : Around, A'.handled = A.handled → wpAny (model P w) A' (Builtin.«set.__init__» ⟨[.ref s.heap.objs.size, v], []⟩) (fun f s2 => f = .done (.ret .none) ∧ Left P w s xs s2) E { s with heap := s.heap.push (fresh w) })
    (h : ∀ s', Left P w s xs s' → Q (.ref s.heap.objs.size) s') :
    wpAny (model P w) A (call (.type "set") [v]) Q E s := by
  obtain ⟨c, tl, hmro⟩ := F.called_set.mro
  have hmade := F.called_set.made
  have hsub := F.called_set.sub
  refine wpAny_call (codeAny_of_tree ?_)
  show wpAny _ _ (callAny (.type "set") _) _ _ _
  refine wpAny_pure ⟨Code.quiet_builtin _ (by decide +kernel), codeAny_builtin F.entry_type_call ?_⟩
  rw [Around.under_plain (weight_type_call_type "set" [v] []) rfl]
  have h1 := F.called_set.notType
  have h2 := F.called_set.canCreate
  have hct := F.typeCall_set_1 v
  repeat (any_goals (first | assumption | wp_step))
  refine codeAny_mono (code_set_led1 v (E := E) (Q₁ := fun obj s₁ => obj = .ref s.heap.objs.size ∧ s₁ = { s with heap := s.heap.push (fresh w) }) ⟨rfl, rfl⟩) fun r s₁ hr => ?_
  cases r with
  | error e => exact hr
  | ok fl =>
    cases fl with
    | ret obj =>
      obtain ⟨rfl, rfl⟩ := hr
      have hS : (s.heap.push (fresh w)).get? s.heap.objs.size = some (fresh w) := Heap.get?_push_size _ rfl
      have hT : Shared.TypeIs { s with heap := s.heap.push (fresh w) } (.ref s.heap.objs.size) "set" := ⟨_, hS, rfl⟩
      have hli := F.called_set.init.lookup
      have hbi := F.called_set.init.bind (.ref s.heap.objs.size)
      repeat (any_goals (first | assumption | wp_step))
      refine codeAny_mono (codeAny_call_builtin (R := wants (fun r s₂ => r = .none ∧ Left P w s xs s₂) E) F.called_set.init.plain F.entry_set_init (check_set_init_1 hT ?_)) fun r₂ s₂ hr₂ => ?_
      · refine wpAny_mono (hI A.in1.in1 (by simp)) (fun f s2 q => ?_) fun e s2 q => q
        obtain ⟨rfl, q⟩ := q
        exact ⟨rfl, q⟩
      · cases r₂ with
        | error e => exact hr₂
        | ok fl₂ =>
          cases fl₂ with
          | ret r =>
            obtain ⟨rfl, hL⟩ := hr₂
            repeat (any_goals (first | assumption | wp_step))
            exact h _ hL
          | _ => exact hr₂.elim
    | _ => exact hr.elim
theorem left_of {a : Addr} {wr : List Addr} {xs l : List Str} {s s1 s' : Shared} (ea : a = s.heap.objs.size) (hw : ∀ b ∈ wr, s.heap.objs.size ≤ b) (k1 : ∀ b o, s.heap.get? b = some o → s1.heap.get? b = some o)
    (eg : s1.gens = s.gens) (ed : s1.drawn = s.drawn) (eo : s1.os = s.os) (mv : Moved (a :: wr) (fun x y => y = x) s1 s') (hA : At P w s'.heap a l) (mem : ∀ k, k ∈ l ↔ k ∈ xs) (hl : l.length ≤ xs.length) : Left P w s xs s' := by
  obtain ⟨h', g', d', tk', os'⟩ := s'
  have e1 : g' = s.gens := mv.gens.trans eg
  have e2 : d' = s.drawn := mv.drawn.trans ed
  have e3 : os' = s.os := mv.os.trans eo
  subst e1 e2 e3 ea
  refine ⟨h', tk', l, rfl, hA, mem, hl, fun b o e => ?_⟩
  have lt : b < s.heap.objs.size := Heap.lt_size e
  refine mv.heap b o (fun z => ?_) (k1 b o e)
  rcases List.mem_cons.mp z with z | z
  · exact absurd z (Nat.ne_of_lt lt)
  · exact absurd (hw b z) (Nat.not_le_of_lt lt)
set_option maxHeartbeats 4000000 in
theorem init_list {l : Addr} {items : Array Value} {xs : List Str} (hh : A.handled = none) (hl : s.heap.IsList l items) (hi : StrsAre items.toList xs) (hb : xs.length + 1 < scanBound) :
    wpAny (model P w) A (Builtin.«set.__init__» ⟨[.ref s.heap.objs.size, .ref l], []⟩) (fun f s2 => f = .done (.ret .none) ∧ Left P w s xs s2) E { s with heap := s.heap.push (fresh w) } := by
  have hsz : xs.length = items.size := by rw [← StrsAre.len_eq hi, Array.length_toList]
  have hv : ∀ (i : Nat) (v : Value), items[i]? = some v → ∃ k t, xs[i]? = some k ∧ v = .str k t := fun i v q => by
    have hi' : i < xs.length := by rw [hsz]; exact (Array.getElem?_eq_some_iff.mp q).1
    obtain ⟨t, e⟩ := SS.strs_at hi i v (by rw [Array.getElem?_toList]; exact q)
    refine ⟨xs[i], t, List.getElem?_eq_getElem hi', ?_⟩
    rw [e, List.getD_eq_getElem?_getD, List.getElem?_eq_getElem hi'] <;> rfl
  have hS : (s.heap.push (fresh w)).get? s.heap.objs.size = some (fresh w) := Heap.get?_push_size _ rfl
  have hT : Shared.TypeIs { s with heap := s.heap.push (fresh w) } (.ref s.heap.objs.size) "set" := ⟨_, hS, rfl⟩
  obtain ⟨ol, hol, hcl, nl, hdl⟩ := id hl
  obtain ⟨ocls, odict, odata, oslots⟩ := ol
  simp only at hcl hdl
  subst hcl; subst hdl
  have hol1 : (s.heap.push (fresh w)).get? l = some { cls := .type "list", dict := odict, data := .seq items nl, slots := oslots } := Heap.get?_push_of_some _ hol
  have f1 := F.sub_list_set
  have f2 := F.sub_list_frozenset
  have f3 : (Value.type "list" == Value.type "dict") = false := by decide
  have hl1 : (s.heap.push (fresh w)).IsList l items := ⟨_, hol1, rfl, nl, rfl⟩
  have lS : l < s.heap.objs.size := Heap.lt_size hol
  have nI : l ≠ (s.heap.push (fresh w)).objs.size := by
    rw [Heap.size_push]
    exact Nat.ne_of_lt (Nat.lt_succ_of_lt lS)
  have nS : s.heap.objs.size ∉ [(s.heap.push (fresh w)).objs.size, l] := by
    rw [Heap.size_push]
    intro q
    rcases List.mem_cons.mp q with q | q
    · exact absurd q (Nat.ne_of_lt (Nat.lt_succ_self _))
    · exact absurd (List.mem_singleton.mp q) (Nat.ne_of_gt lS)
  have z1 : (s.heap.push (fresh w)).objs.size = s.heap.objs.size + 1 := Heap.size_push ..
  unfold Builtin.«set.__init__» noKeywords Builtin.Frozenset.updateFrom
  generalize ePI : pyIter = PI
  wp_walk
  subst ePI
  refine wpAny_pyIter_list hl1 ?_
  refine wpAny_bind (wpAny_runValue ?_)
  refine fill ((Walks.list (by simp [hh]) _ l nI items).toS) s.heap.objs.size nS xs hsz.symm hb hv (items.size - 0) 0 _ rfl (Nat.zero_le _)
    ⟨⟨_, Heap.get?_push_size _ rfl, rfl, rfl⟩, hl1.push _⟩ ⟨[], at_fresh (Heap.get?_push_of_some _ hS), Nat.le_refl _, fun k => by simp⟩ fun s' m mv hA mem hm => ?_
  show wpAny _ _ _ _ _ _
  refine wpAny_pure ?_
  show wpAny _ _ (ret Value.none) _ _ _
  refine wpAny_pure ⟨rfl, left_of (wr := [_]) rfl ?_ ?k1 ?e1 ?e2 ?e3 mv hA mem (by omega)⟩
  case k1 => exact fun b o e => Heap.get?_push_of_some _ (Heap.get?_push_of_some _ e)
  case e1 => rfl
  case e2 => rfl
  case e3 => rfl
  intro b q
  rw [List.mem_singleton.mp q]
  show _ ≤ (s.heap.push (fresh w)).objs.size
  rw [z1]
  exact Nat.le_succ _
set_option maxHeartbeats 4000000 in
theorem init_text {x : Str} {t : Tok} (hh : A.handled = none) (hb : x.length + 1 < scanBound) :
    wpAny (model P w) A (Builtin.«set.__init__» ⟨[.ref s.heap.objs.size, .str x t], []⟩) (fun f s2 => f = .done (.ret .none) ∧ Left P w s (x.cps.toList.map fun c => (⟨#[c]⟩ : Str)) s2) E { s with heap := s.heap.push (fresh w) } := by
  have hsz : (x.cps.toList.map fun c => (⟨#[c]⟩ : Str)).length = x.cps.size := by rw [List.length_map, Array.length_toList]
  have hx : x.length = x.cps.size := rfl
  have hv : ∀ (i : Nat) (v : Value), SignAt x i v → ∃ k t, (x.cps.toList.map fun c => (⟨#[c]⟩ : Str))[i]? = some k ∧ v = .str k t := fun i v ⟨c, u, q, e⟩ => by
    refine ⟨⟨#[c]⟩, u, ?_, e⟩
    rw [List.getElem?_map, Array.getElem?_toList, q] <;> rfl
  have hS : (s.heap.push (fresh w)).get? s.heap.objs.size = some (fresh w) := Heap.get?_push_size _ rfl
  have hT : Shared.TypeIs { s with heap := s.heap.push (fresh w) } (.ref s.heap.objs.size) "set" := ⟨_, hS, rfl⟩
  have hTx : Shared.TypeIs { s with heap := s.heap.push (fresh w) } (.str x t) "str" := typeIs_str _ x t
  have f1 := PySem.F.sub_str_set
  have f2 := PySem.F.sub_str_frozenset
  have f3 : (Value.type "str" == Value.type "dict") = false := by decide
  have z1 : (s.heap.push (fresh w)).objs.size = s.heap.objs.size + 1 := Heap.size_push ..
  unfold Builtin.«set.__init__» noKeywords Builtin.Frozenset.updateFrom
  generalize ePI : pyIter = PI
  wp_walk
  subst ePI
  refine wpAny_pyIter_str fun o St W st => ?_
  refine wpAny_bind (wpAny_runValue ?_)
  refine fill ((W _ (by simp [hh])).toS) s.heap.objs.size (by rw [z1]; simp) _ hsz.symm (by rw [hsz, ← hx]; exact hb) hv (x.cps.size - 0) 0 _ rfl (Nat.zero_le _)
    st ⟨[], at_fresh (Heap.get?_push_of_some _ hS), Nat.le_refl _, fun k => by simp⟩ fun s' m mv hA mem hm => ?_
  show wpAny _ _ _ _ _ _
  refine wpAny_pure ?_
  show wpAny _ _ (ret Value.none) _ _ _
  refine wpAny_pure ⟨rfl, left_of (wr := [_]) rfl ?_ ?k1 ?e1 ?e2 ?e3 mv hA mem (by rw [hsz]; exact hm)⟩
  case k1 => exact fun b o e => Heap.get?_push_of_some _ (Heap.get?_push_of_some _ e)
  case e1 => rfl
  case e2 => rfl
  case e3 => rfl
  intro b q
  rw [List.mem_singleton.mp q]
  show _ ≤ (s.heap.push (fresh w)).objs.size
  rw [z1]
  exact Nat.le_succ _

/-! ### sorted(set) -/
theorem texts_of {es : List (Int × Value)} (el : ElemsOf (strKind P w) es) : ∀ vs : List Value, (∀ v ∈ vs, v ∈ es.map (·.2)) → ∃ ks : List Str, StrsAre vs ks ∧ (∀ k, k ∈ ks ↔ ∃ v ∈ vs, (strKind P w).is k v = true) ∧ ks.length = vs.length
  | [], _ => ⟨[], .nil, fun k => by simp, rfl⟩
  | v :: vs, h => by
    obtain ⟨ks, h1, h2, h3⟩ := texts_of el vs fun u q => h u (List.mem_cons_of_mem _ q)
    obtain ⟨e, he, ev⟩ := List.mem_map.mp (h v List.mem_cons_self)
    obtain ⟨⟨k, hk, _⟩, _⟩ := el e he
    rw [ev] at hk
    obtain ⟨t, rfl⟩ := Value.isStrOf_shape hk
    refine ⟨k :: ks, .cons k t h1, fun j => ?_, by rw [List.length_cons, List.length_cons, h3]⟩
    rw [List.mem_cons, h2 j]
    constructor
    · rintro (q | ⟨u, hu, q⟩)
      · exact ⟨_, List.mem_cons_self, by rw [q]; exact hk⟩
      · exact ⟨u, List.mem_cons_of_mem _ hu, q⟩
    · rintro ⟨u, hu, q⟩
      rcases List.mem_cons.mp hu with z | z
      · rw [z] at q
        exact .inl ((strKind P w).inj _ _ _ q hk)
      · exact .inr ⟨u, z, q⟩
theorem sorted_at {a : Addr} {l : List Str} {Q : Value → Shared → Prop} (R : At P w s.heap a l) (hh : A.handled = none) (h64 : l.length < 64)
    (hQ : ∀ s' p (out : Array Value) (c : Nat) (ys : List Str), (∀ b o, s.heap.get? b = some o → s'.heap.get? b = some o) → s'.gens = s.gens → s'.os = s.os → s.heap.objs.size ≤ p →
      s'.heap.get? p = some (seqObj "list" out c) → StrsAre out.toList ys → ys.Perm l → sortedS ys = true → Q (.ref p) s') :
    wpAny (model P w) A (call (.builtin "sorted") [.ref a]) Q E s := by
  obtain ⟨⟨es, ep, t⟩, ho, ok⟩ := R
  have ft : t.fits es.size = true := ok.tx.fit
  have z : es.size = l.length := ok.tx.sz
  have sb : es.size < scanBound := by
    unfold scanBound
    omega
  refine Calls.call_function_entry kind_sorted plain_sorted entry_sorted (args_sorted1 _) ?_
  unfold Builtin.«sorted»
  refine wpAny_bind (m := checkCount "sorted" 1 1 _) (wpAny_pure ?_)
  refine wpAny_bind (collect_set (A := A.in1) hh ⟨_, ho, rfl, rfl⟩ ft sb ok.up ok.led fun s1 vs k1 hz g1 o1 pm => ?_)
  obtain ⟨ks, hS, mem, hlen⟩ := texts_of ok.tx.el vs fun v hv => pm.mem_iff.mp hv
  have vl : vs.length = l.length := by rw [pm.length_eq, List.length_map, Array.length_toList]; exact z
  have pk : ks.Perm l := perm_of_sub l ks ok.nd (fun k hk => by
    obtain ⟨e, he, q⟩ := (ok.tx.mem k).mp hk
    exact (mem k).mpr ⟨e.2, pm.mem_iff.mpr (List.mem_map.mpr ⟨e, he, rfl⟩), q⟩) (by omega)
  refine wpAny_bind (wpAny_newList ?_ (by rw [vl, sizeLine_eq]; omega))
  have hoL : (s1.heap.push (seqObj "list" vs.toArray 0)).get? s1.heap.objs.size = some (seqObj "list" vs.toArray 0) := Heap.get?_push_size _ rfl
  refine wpAny_bind (wpAny_holding (wpAny_call_entry slot_list_sort ⟨_, hoL, rfl⟩ entry_list_sort
    (list_sort_treeK strKind_oneLt hoL hS.keysOf (fun v₁ v₂ rest e => keyKind_strs (by rw [← e]; exact hS)) (by rw [vl]; exact h64) fun st' hp hs => ?_) (args_list_sort _)))
  obtain ⟨ys, y1, y2, y3⟩ := sorted_out_str hS hp hs
  obtain ⟨c, hc⟩ := sortedHeap_at (vs := vs) (out := Array.map (fun x => x.snd) (arrOf st')) hoL
  refine ⟨_, rfl, wpAny_pure ⟨_, rfl, hQ _ s1.heap.objs.size _ c ys (fun b u e => ?_) g1 o1 hz hc y1 (y2.trans pk) y3⟩⟩
  have q := k1 b u e
  have lt := Heap.lt_size q
  show (sortedHeap (s1.heap.push (seqObj "list" vs.toArray 0)) s1.heap.objs.size vs _).get? b = some u
  rw [sortedHeap_old (Nat.ne_of_lt lt) (by rw [Heap.size_push]; exact Nat.lt_succ_of_lt lt)]
  exact Heap.get?_push_of_some _ q
end

/-! ### over the layer -/
def SetTx (P : Program) (w : World) (a : Addr) (l : List Str) : HO := .ext fun h => At P w h a l
theorem setTx_new {P : Program} {w : World} {H : Hp} {h : Heap} {a : Addr} {l : List Str} (R : At P w h a l) : ObjOk P w H h a (SetTx P w a l) := by
  have ⟨D, hD, _⟩ := R
  exact ⟨R, ⟨_, hD⟩, fun h1 h2 p k => At.move p k⟩
section
variable {X : Cx}
/-- set(xs), xs a list of texts -/
def rSetL (K : PySem.W.Frag) (P : Program) (w : World) : List V → Hp → VK → Prop := fun xs H Q => ∃ (l : Addr) (ss : List Str), xs = [V.ref l] ∧ SqL K H l (ss.map V.str) ∧ ss.length + 1 < scanBound ∧
  ∀ (a : Addr) (ls : List Str), H a = none → ls.Nodup → (∀ k, k ∈ ls ↔ k ∈ ss) → ls.length ≤ ss.length → Q (.ref a) (upd H a (SetTx P w a ls))
theorem At.nd {P : Program} {w : World} {h : Heap} {a : Addr} {l : List Str} (x : At P w h a l) : l.Nodup := by
  obtain ⟨D, _, o⟩ := x
  exact o.nd
theorem cr_setL (hc : X.calm = true) : CallR X (.type "set") (rSetL X.K X.prog X.w) := by
  intro pins s σ H xs us Q I r h
  obtain ⟨l, ss, rfl, hs, hb, q⟩ := h
  obtain ⟨its, rv, hl, _⟩ := I.list hs
  rw [Vals.ref1 r]
  have hn : H s.heap.objs.size = none := I.hok.fresh (Nat.le_refl _)
  refine call_set_of (xs := ss) (fun A' e => init_list (e.trans (I.ok.hd hc)) hl.isList rv.strs hb) fun s' L => ?_
  obtain ⟨h', tk, ls, rfl, hA, mem, hlen, kp⟩ := L
  exact ⟨.ref s.heap.objs.size, upd H s.heap.objs.size (SetTx X.prog X.w s.heap.objs.size ls), I.laid (t' := tk) kp (Nat.le_refl _) (setTx_new hA), rfl, q _ ls hn hA.nd mem hlen⟩
def signs (x : Str) : List Str := x.cps.toList.map fun c => (⟨#[c]⟩ : Str)
/-- set(x), x a text -/
def rSetT (P : Program) (w : World) : List V → Hp → VK → Prop := fun xs H Q => ∃ (x : Str), xs = [V.str x] ∧ x.length + 1 < scanBound ∧
  ∀ (a : Addr) (ls : List Str), H a = none → ls.Nodup → (∀ k, k ∈ ls ↔ k ∈ signs x) → ls.length ≤ x.length → Q (.ref a) (upd H a (SetTx P w a ls))
theorem cr_setT (hc : X.calm = true) : CallR X (.type "set") (rSetT X.prog X.w) := by
  intro pins s σ H xs us Q I r h
  obtain ⟨x, rfl, hb, q⟩ := h
  obtain ⟨t, rfl⟩ : ∃ t, us = [Value.str x t] := by
    cases r with
    | cons r1 r2 =>
      cases r2
      obtain ⟨t, rfl⟩ := r1
      exact ⟨t, rfl⟩
  have hn : H s.heap.objs.size = none := I.hok.fresh (Nat.le_refl _)
  refine call_set_of (xs := x.cps.toList.map fun c => (⟨#[c]⟩ : Str)) (fun A' e => init_text (e.trans (I.ok.hd hc)) hb) fun s' L => ?_
  obtain ⟨h', tk, ls, rfl, hA, mem, hlen, kp⟩ := L
  rw [List.length_map, Array.length_toList] at hlen
  exact ⟨.ref s.heap.objs.size, upd H s.heap.objs.size (SetTx X.prog X.w s.heap.objs.size ls), I.laid (t' := tk) kp (Nat.le_refl _) (setTx_new hA), rfl, q _ ls hn hA.nd mem hlen⟩
/-- sorted(found) of texts, fewer than 64 -/
def rSortTx (P : Program) (w : World) : List V → Hp → VK → Prop := fun vs H Q => ∃ (a : Addr) (l : List Str), vs = [V.ref a] ∧ H a = some (SetTx P w a l) ∧ l.length < 64 ∧
  ∀ (ys : List Str) (p : Addr), ys.Perm l → sortedS ys = true → H p = none → Q (.ref p) (upd H p (.lst (ys.map V.str)))
theorem cr_sortTx (hc : X.calm = true) : CallR X (.builtin "sorted") (rSortTx X.prog X.w) := by
  intro pins s σ H vs us Q I r h
  obtain ⟨a, l, rfl, ha, h64, q⟩ := h
  have R : At X.prog X.w s.heap a l := (I.hok a _ ha).1
  rw [Vals.ref1 r]
  refine sorted_at R (I.ok.hd hc) h64 fun s' p out c ys k g o hp hg hi pm so => ?_
  have hlen : (ys.map V.str).length ≤ sizeLine := by
    rw [List.length_map, pm.length_eq, sizeLine_eq]
    omega
  have hn : H p = none := I.hok.fresh hp
  have J : Inv X pins σ (upd H p (.lst (ys.map V.str))) { s with heap := s'.heap, gens := s'.gens, drawn := s'.drawn, toks := s'.toks } :=
    I.call (ch := []) (Un.laid k hp hn) (I.hok.laid k hp ⟨hlen, out.toList, c, vals_of_strs hi, hg⟩) (by rw [g]; exact I.bare) (fun _ z => nomatch z)
  have e : s' = { s with heap := s'.heap, gens := s'.gens, drawn := s'.drawn, toks := s'.toks } := by
    cases s'
    cases s
    cases o
    rfl
  rw [e]
  exact ⟨.ref p, _, J, rfl, q ys p pm so hn⟩
end
end TX
namespace DW
open PySem PySem.Spec PyProof.Rows L2
def topS (i : Nat) : Stmt := PySem.Challenge.pw_downwords_k07_whole_words_of_a_product.main.body.getD i (.Pass ⟨0, 0, 0, 0⟩)
abbrev sSwallows : Stmt := topS 1
abbrev sCovers : Stmt := topS 2
abbrev sUnfold : Stmt := topS 3
abbrev sBehind : Stmt := topS 4
abbrev sPlaceBehind : Stmt := topS 5
abbrev sIsIncluded : Stmt := topS 6
abbrev sSubwordsProduct : Stmt := topS 7
abbrev sAccepts : Stmt := topS 8
abbrev sBegin : Stmt := topS 10
abbrev sDraw : Stmt := topS 11
abbrev sPick : Stmt := topS 12
abbrev sAlpha : Stmt := topS 13
abbrev sFactor : Stmt := topS 14
abbrev sProduct : Stmt := topS 15
abbrev sWord : Stmt := topS 16
abbrev sLWords : Stmt := topS 17
abbrev sLIsSubword : Stmt := topS 18
abbrev sLInProduct : Stmt := topS 19
abbrev sLSame : Stmt := topS 20
abbrev sLaw : Stmt := topS 21
end DW
namespace DW
open PySem PySem.Spec PyProof.Rows L2
/-! ### a def that stands in the module -/
structure Df (K : PySem.W.Frag) (mg : Str → Option Value) (x : Str) (st : Stmt) (ps : List Str) where
  f : Addr
  fd : FuncData
  F : FunD K x x (defArgs st) (defBody st) (defScope st) [] [] f fd
  g : mg x = some (.ref f)
  b : Binds K fd ps []
/-! ### heaps: all but the tape stays -/
structure Kp (t : Addr) (H H' : Hp) : Prop where
  old : ∃ kvs, H t = some (.dK kvs)
  new : ∃ kvs, H' t = some (.dK kvs)
  oth : ∀ b o, b ≠ t → H b = some o → H' b = some o
theorem Kp.trans {t : Addr} {H H1 H2 : Hp} (a : Kp t H H1) (b : Kp t H1 H2) : Kp t H H2 := ⟨a.old, b.new, fun c o n e => b.oth c o n (a.oth c o n e)⟩
theorem Kp.of {t : Addr} {H H' : Hp} {kvs : List (Key × V)} (e : H t = some (.dK kvs)) (s : Same H H') : Kp t H H' := ⟨⟨_, e⟩, ⟨_, s _ _ e⟩, fun b o _ h => s b o h⟩
theorem Kp.at {t b : Addr} {H H' : Hp} {o : HO} (k : Kp t H H') (h : H b = some o) (n : ∀ kvs, o ≠ .dK kvs) : H' b = some o := by
  obtain ⟨kvs, e⟩ := k.old
  exact k.oth b o (fun z => by
    subst z
    rw [e] at h
    exact n kvs (Option.some.inj h).symm) h
theorem Kp.lst {t b : Addr} {H H' : Hp} {xs : List V} {K : PySem.W.Frag} (k : Kp t H H') (h : SqL K H b xs) : SqL K H' b xs := by
  rcases h with (h | ⟨o, h⟩) | h
  · exact .inl (.inl (k.at h fun _ z => by cases z))
  · exact .inl (.inr ⟨o, k.at h fun _ z => by cases z⟩)
  · exact .inr h
theorem Kp.tup {t b : Addr} {H H' : Hp} {xs : List V} {K : PySem.W.Frag} (k : Kp t H H') (h : SqT K H b xs) : SqT K H' b xs := by
  rcases h with (h | ⟨o, h⟩) | h
  · exact .inl (.inl (k.at h fun _ z => by cases z))
  · exact .inl (.inr ⟨o, k.at h fun _ z => by cases z⟩)
  · exact .inr h
theorem same_upd {H : Hp} {p : Addr} {o : HO} (h : H p = none) : Same H (upd H p o) := fun b x e => by
  rw [upd_ne (ne_of_none e h)]
  exact e
theorem Kp.gone {t b : Addr} {H H' : Hp} (k : Kp t H H') (h : H' b = none) : H b = none := by
  cases q : H b with
  | none => rfl
  | some o =>
    by_cases e : b = t
    · obtain ⟨kvs, z⟩ := k.new
      rw [e, z] at h
      cases h
    · rw [k.oth b o e q] at h
      cases h
/-! ### the tape -/
def tpd (c : Addr) (p l : Int) : List (Key × V) := [(.inr "cells", .ref c), (.inr "place", .int p), (.inr "left", .int l)]
structure Tape (H : Hp) (t c : Addr) (n : Nat) : Prop where
  ex : ∃ (cells : List Int) (p : Nat) (l : Int), H t = some (.dK (tpd c p l)) ∧ H c = some (.lst (cells.map V.int)) ∧ 0 < cells.length ∧ cells.length ≤ 63 ∧ p ≤ n ∧ 0 ≤ l
section
variable {H H' : Hp} {t c : Addr} {n m : Nat}
theorem Tape.dk (T : Tape H t c n) : ∃ kvs, H t = some (.dK kvs) := by
  obtain ⟨cells, p, l, h, _⟩ := T.ex
  exact ⟨_, h⟩
theorem Tape.same (T : Tape H t c n) (s : Same H H') : Tape H' t c n := by
  obtain ⟨cells, p, l, h, hc, r⟩ := T.ex
  exact ⟨cells, p, l, s _ _ h, s _ _ hc, r⟩
theorem Tape.kp (T : Tape H t c n) (s : Same H H') : Kp t H H' := by
  obtain ⟨kvs, h⟩ := T.dk
  exact Kp.of h s
theorem Tape.mono (T : Tape H t c n) (h : n ≤ m) : Tape H t c m := by
  obtain ⟨cells, p, l, h1, h2, h3, h4, h5, h6⟩ := T.ex
  exact ⟨cells, p, l, h1, h2, h3, h4, Nat.le_trans h5 h, h6⟩
theorem Kp.refl (T : Tape H t c n) : Kp t H H := T.kp (Same.refl H)
/-- a store at an object that is not the tape's -/
theorem Tape.upd {D : Addr} {o : HO} (T : Tape H t c n) (h1 : D ≠ t) (h2 : D ≠ c) : Tape (upd H D o) t c n := by
  obtain ⟨cells, p, l, h, hc, r⟩ := T.ex
  exact ⟨cells, p, l, (upd_ne h1.symm).trans h, (upd_ne h2.symm).trans hc, r⟩
theorem Tape.ne1 {D : Addr} (T : Tape H t c n) (h : H D = none) : D ≠ t := fun z => by
  obtain ⟨cells, p, l, e, hc, r⟩ := T.ex
  rw [z, e] at h
  cases h
theorem Tape.ne2 {D : Addr} (T : Tape H t c n) (h : H D = none) : D ≠ c := fun z => by
  obtain ⟨cells, p, l, e, hc, r⟩ := T.ex
  rw [z, hc] at h
  cases h
theorem Kp.put {D : Addr} {o : HO} (k : Kp t H H') (h : H D = Option.none) (h1 : D ≠ t) : Kp t H (L2.upd H' D o) := by
  obtain ⟨kvs, e⟩ := k.new
  refine ⟨k.old, ⟨kvs, (upd_ne h1.symm).trans e⟩, fun b u n q => ?_⟩
  rw [upd_ne (ne_of_none q h)]
  exact k.oth b u n q
end
theorem ks1 : ¬ (("cells" : Str) = "place") := by decide +kernel
theorem ks2 : ¬ (("cells" : Str) = "left") := by decide +kernel
theorem ks3 : ¬ (("place" : Str) = "left") := by decide +kernel
theorem ks1' : ¬ (("place" : Str) = "cells") := by decide +kernel
theorem ks2' : ¬ (("left" : Str) = "cells") := by decide +kernel
theorem ks3' : ¬ (("left" : Str) = "place") := by decide +kernel
theorem tp_cells (c : Addr) (p l : Int) : valV (tpd c p l) (Sum.inr ("cells" : Str)) = some (.ref c) := by simp [tpd, valV]
theorem tp_place (c : Addr) (p l : Int) : valV (tpd c p l) (Sum.inr ("place" : Str)) = some (.int p) := by simp [tpd, valV, ks1]
theorem tp_left (c : Addr) (p l : Int) : valV (tpd c p l) (Sum.inr ("left" : Str)) = some (.int l) := by simp [tpd, valV, ks2, ks3]
theorem tp_put_place (c : Addr) (p q l : Int) : putK (tpd c p l) (Sum.inr ("place" : Str)) (.int q) = tpd c q l := by simp [putK, tpd, ks1, ks3']
theorem tp_put_left (c : Addr) (p l m : Int) : putK (tpd c p l) (Sum.inr ("left" : Str)) (.int m) = tpd c p m := by simp [putK, tpd, ks2, ks3]
theorem tp_merge (c : Addr) (p l : Int) : mergeK [] (tpd c p l) = tpd c p l := by simp [mergeK, putK, tpd, ks1, ks2, ks3]
theorem g_cells {H : Hp} {t c : Addr} {p l : Int} (h : H t = some (.dK (tpd c p l))) : DGet H t (.str "cells") (some (.ref c)) := by
  have q := DGet.k (k := Sum.inr ("cells" : Str)) h
  rw [tp_cells] at q
  exact q
theorem g_place {H : Hp} {t c : Addr} {p l : Int} (h : H t = some (.dK (tpd c p l))) : DGet H t (.str "place") (some (.int p)) := by
  have q := DGet.k (k := Sum.inr ("place" : Str)) h
  rw [tp_place] at q
  exact q
theorem g_left {H : Hp} {t c : Addr} {p l : Int} (h : H t = some (.dK (tpd c p l))) : DGet H t (.str "left") (some (.int l)) := by
  have q := DGet.k (k := Sum.inr ("left" : Str)) h
  rw [tp_left] at q
  exact q
theorem p_place {H : Hp} {t c : Addr} {p l : Int} (q : Int) (h : H t = some (.dK (tpd c p l))) : DPut H t (.str "place") (.int q) (upd H t (.dK (tpd c q l))) := by
  have z := DPut.k (k := Sum.inr ("place" : Str)) (v := V.int q) h (by show 3 < sizeLine; decide)
  rw [tp_put_place] at z
  exact z
theorem p_left {H : Hp} {t c : Addr} {p l : Int} (q : Int) (h : H t = some (.dK (tpd c p l))) : DPut H t (.str "left") (.int q) (upd H t (.dK (tpd c p q))) := by
  have z := DPut.k (k := Sum.inr ("left" : Str)) (v := V.int q) h (by show 3 < sizeLine; decide)
  rw [tp_put_left] at z
  exact z
def spBegin (K : PySem.W.Frag) : Sp := fun vs H Q _ => ∃ (a : Addr) (ns : List Int), vs = [.ref a] ∧ SqL K H a (ns.map V.int) ∧ ∀ H' t c, Same H H' → H t = none → H c = none → Tape H' t c 0 → Q (.ref t) H'
def spDraw : Sp := fun vs H Q _ => ∃ (t c : Addr) (m : Int) (n : Nat), vs = [.ref t, .int m] ∧ Tape H t c n ∧ n < 2 ^ 40 ∧ 0 < m ∧ m < 2 ^ 30 ∧ ∀ H' r, Kp t H H' → Tape H' t c (n + 1) → 0 ≤ r → r < m → Q (.int r) H'
/-- pick: from a list, from a text -/
def spPick (K : PySem.W.Frag) : Sp := fun vs H Q _ => ∃ (t c : Addr) (n : Nat) (x : V), vs = [.ref t, x] ∧ Tape H t c n ∧ n < 2 ^ 40 ∧
  ((∃ a xs, x = .ref a ∧ SqL K H a xs ∧ xs ≠ [] ∧ xs.length < 2 ^ 30 ∧ ∀ H' y, Kp t H H' → Tape H' t c (n + 1) → y ∈ xs → Q y H') ∨
   (∃ z : Str, x = .str z ∧ z.length ≠ 0 ∧ z.length < 2 ^ 20 ∧ ∀ H' d, Kp t H H' → Tape H' t c (n + 1) → d ∈ z.cps.toList → Q (.str ⟨#[d]⟩) H'))
section
variable {P : Program} {w : World} {K : PySem.W.Frag} {mg : Str → Option Value} {base : Heap}
theorem scBegin : FnScope ["_law_script"] ["_law_script"] (defScope sBegin) := ⟨rfl, rfl, rfl, by decide +kernel, rfl, by decide +kernel, by decide +kernel⟩
theorem cut63 (ns : List Int) : ∃ ms : List Int, cutV (ns.map V.int) none (some 63) = ms.map V.int ∧ ms.length ≤ 63 := by
  refine ⟨ns.take 63, ?_, ?_⟩
  · unfold cutV
    rw [HT.sIx_none, show HT.sIx (ns.map V.int).length (ns.map V.int).length (some 63) = min 63 (ns.map V.int).length from HT.sIx_nat _ _ 63, List.map_take]
    show List.take _ (List.drop 0 _) = _
    rw [List.drop_zero, Nat.sub_zero]
    by_cases c : 63 ≤ (ns.map V.int).length
    · rw [Nat.min_eq_left c]
    · rw [Nat.min_eq_right (by omega), List.take_length, List.take_of_length_le (by omega)]
  · rw [List.length_take]
    omega
theorem ok_begin (D : Df K mg "_law_begin" sBegin ["_law_script"]) : FnOk P w K mg base CX0 1 D.f D.fd ["_law_script"] (spBegin K) := by
  refine D.F.ok scBegin (fun vs H Q E h => ?_) (fun cdv A outer s H vs Q E hr h => ?_)
  · obtain ⟨a, ns, rfl, _⟩ := h
    rfl
  · obtain ⟨a, ns, rfl, hS, k⟩ := h
    refine ⟨_, pss_one (ps_ret (pe_disp (pps_cons pe_str (pe_orT (pe_slice sl_list (pv 0) po_none (po_some pe_int)) (pe_one (pe_lst (pa_cons pe_int pa_nil)))) (pps_cons pe_str pe_int (pps_cons pe_str pe_int pps_nil))) (by rfl) (by rfl) (fun z => by cases z) (by decide))), ?_⟩
    intro t ht
    have s1 : Same H (upd H t (.dK [])) := same_upd ht
    obtain ⟨ms, em, hm⟩ := cut63 ns
    refine ⟨_, rfl, 63, rfl, a, ns.map V.int, rfl, s1.seq hS, fun c hc => ?_⟩
    have nct : c ≠ t := fun z => by
      rw [z, upd_same] at hc
      cases hc
    rw [em]
    refine ⟨!(ms.map V.int).isEmpty, .inl ⟨_, SqL.of upd_same, rfl⟩, ite2 (fun e => ?_) (fun e => ?_)⟩
    · refine ⟨Eq.trans (upd_ne nct.symm) upd_same, tpd c 0 0, rfl, by show 3 ≤ 15; decide, ?_⟩
      rw [tp_merge]
      refine k _ t c (fun b o eb => ?_) ht (s1.free hc) ⟨ms, 0, 0, upd_same, Eq.trans (upd_ne nct) upd_same, ?_, hm, Nat.le_refl _, Int.le_refl _⟩
      · have nb : b ≠ t := ne_of_none eb ht
        rw [upd_ne nb]
        exact same_upd hc _ _ (s1 _ _ eb)
      · cases ms with
        | nil => cases e
        | cons x r => exact Nat.succ_pos _
    · refine ⟨by show 1 ≤ sizeLine; decide, fun d hd => ?_⟩
      have ndt : d ≠ t := fun z => by
        rw [z, upd_ne nct.symm, upd_same] at hd
        cases hd
      refine ⟨Eq.trans (upd_ne ndt.symm) (Eq.trans (upd_ne nct.symm) upd_same), tpd d 0 0, rfl, by show 3 ≤ 15; decide, ?_⟩
      rw [tp_merge]
      refine k _ t d (fun b o eb => ?_) ht (s1.free ((same_upd hc).free hd)) ⟨[0], 0, 0, upd_same, Eq.trans (upd_ne ndt) upd_same, Nat.succ_pos _, by decide, Nat.le_refl _, Int.le_refl _⟩
      have nb : b ≠ t := ne_of_none eb ht
      rw [upd_ne nb]
      exact same_upd hd _ _ (same_upd hc _ _ (s1 _ _ eb))
theorem scDraw : FnScope ["_law_tape", "_law_many", "_law_place", "_law_count", "_law_cell", "_law_found"] ["_law_tape", "_law_many"] (defScope sDraw) := ⟨rfl, rfl, rfl, by decide +kernel, rfl, by decide +kernel, by decide +kernel⟩
theorem tape_put {H : Hp} {t c : Addr} {cells : List Int} {n p : Nat} {l : Int} {kvs : List (Key × V)} (e : H t = some (.dK kvs)) (hc : H c = some (.lst (cells.map V.int))) (h1 : 0 < cells.length) (h2 : cells.length ≤ 63) (hp : p ≤ n) (hl : 0 ≤ l) :
    Tape (upd H t (.dK (tpd c p l))) t c n := by
  have nct : c ≠ t := ne_of hc e (by intro z; cases z)
  exact ⟨cells, p, l, upd_same, Eq.trans (upd_ne nct) hc, h1, h2, hp, hl⟩
theorem kp_put {H : Hp} {t : Addr} {kvs kvs' : List (Key × V)} (e : H t = some (.dK kvs)) : Kp t H (upd H t (.dK kvs')) := ⟨⟨_, e⟩, ⟨_, upd_same⟩, fun b o n h => (upd_ne n).trans h⟩
theorem ok_draw (D : Df K mg "_law_draw" sDraw ["_law_tape", "_law_many"]) (ml : mg "len" = none) : FnOk P w K mg base CX0 1 D.f D.fd ["_law_tape", "_law_many"] spDraw := by
  refine D.F.ok scDraw (fun vs H Q E h => ?_) (fun cdv A outer s H vs Q E hr h => ?_)
  · obtain ⟨t, c, m, n, rfl, _⟩ := h
    rfl
  · obtain ⟨t, c, m, n, rfl, T, hn, m0, m1, k⟩ := h
    have hu := hu_of hr
    refine ⟨_, C8.pss_cut (ps_if (pt_cmpR op_lt (pe_dget hu (pv 0) pe_str (fun _ _ => rfl)) (pv 1) (nomark _))
        (pss_cons (ps_par (i := 2) (j := 3) rfl scDraw.nd rfl rfl (by decide) rfl rfl (pa_cons (pe_dget hu (pv 0) pe_str (fun _ _ => rfl)) (pa_cons (pe_callB call_len_seq (by rfl) ml PySem.boot_len (pa_cons (pe_dget hu (pv 0) pe_str (fun _ _ => rfl)) pa_nil)) pa_nil)) (by rfl))
        (pss_cons (ps_asg (pe_tup (pa_cons (pe_ix ix_list (pe_dget hu (pv 0) pe_str (fun _ _ => rfl)) (pe_op op_mod (pv 2) (pv 3)) (fun _ _ => rfl)) (pa_cons (pe_op op_add (pv 2) pe_int) pa_nil)))
            (pg_tup rfl (pgs_cons (pg_name (i := 4) scDraw.nd rfl (.inl rfl)) (pgs_cons (pg_sub (pv 0) pe_str (set_dict hu)) pgs_nil))))
        (pss_cons (ps_dput hu (pv 0) pe_str (pe_op op_mod (pe_op op_pow (pe_op op_add (pe_op op_add (pe_op op_mod (pv 4) pe_int) (pe_op op_mul pe_int (pv 2))) pe_int) pe_int) (pe_op op_add (pe_op op_pow pe_int pe_int) pe_int)) rfl)
        (pss_one (ps_if (pw_and (pt_cmpR op_ge (pv 4) (pe_op op_pow pe_int pe_int) (nomark _)) (pw_and1 (pt_cmpR op_lt (pv 2) (pv 3) (nomark _)))).pt
          (pss_one (ps_dput hu (pv 0) pe_str (pe_op op_sub (pv 4) (pe_op op_pow pe_int pe_int)) rfl)) pss_nil))))) pss_nil)
      (pss_cons (ps_asg (pe_tup (pa_cons (pe_op op_mod (pe_dget hu (pv 0) pe_str (fun _ _ => rfl)) (pv 1)) (pa_cons (pe_op op_fdiv (pe_dget hu (pv 0) pe_str (fun _ _ => rfl)) (pv 1)) pa_nil)))
            (pg_tup rfl (pgs_cons (pg_name (i := 5) scDraw.nd rfl (.inl rfl)) (pgs_cons (pg_sub (pv 0) pe_str (set_dict hu)) pgs_nil))))
      (pss_one (ps_ret (pv 5)))), ?_⟩
    have m1' : m < 1073741824 := m1
    obtain ⟨cells, p, l, ht, hc, c0, c63, hp, l0⟩ := T.ex
    refine ⟨fun σ' H' => ∃ y2 y3 y4, σ' = [some (.ref t), some (.int m), y2, y3, y4, none] ∧ Kp t H H' ∧ Tape H' t c (n + 1), ?_, ?_⟩
    · refine ⟨.ref t, rfl, t, .int l, rfl, g_left ht, .int m, rfl, l, m, rfl, rfl, _, rfl, ite2 (fun e => ?_) (fun e => ?_)⟩
      · refine ⟨.ref t, rfl, t, .int p, rfl, g_place ht, .ref t, rfl, t, .ref c, rfl, g_cells ht, c, _, rfl, .inl (SqL.of hc), _, _, rfl, ?_⟩
        have lp : 0 < (cells.map V.int).length := by
          rw [List.length_map]
          exact c0
        have jl : p % (cells.map V.int).length < cells.length := by
          have := Nat.mod_lt p lp
          rw [List.length_map] at this ⊢
          exact this
        have ga : (cells.map V.int)[p % (cells.map V.int).length]? = some (.int cells[p % (cells.map V.int).length]) := by
          rw [List.getElem?_map, List.getElem?_eq_getElem jl]
          rfl
        generalize cells[p % (cells.map V.int).length] = z at ga
        refine ⟨.ref t, rfl, t, .ref c, rfl, g_cells ht, _, rfl, _, rfl, (p : Int), ((cells.map V.int).length : Int), rfl, rfl, by omega, c, _, _, .int z, rfl, rfl, SqL.of hc, at_of (j := p % (cells.map V.int).length) (by rw [Int.natCast_emod]) ga, .int p, rfl, (p : Int), 1, rfl, rfl, by show 2 ≤ sizeLine; decide, fun q hq => ?_⟩
        have s1 : Same H (upd H q (.tup [.int z, .int ((p : Int) + 1)])) := same_upd hq
        have ht1 := s1 _ _ ht
        have hc1 := s1 _ _ hc
        have nct : c ≠ t := ne_of hc ht (by intro z; cases z)
        refine ⟨q, _, rfl, SqT.of upd_same, rfl, _, _, rfl, _, _, rfl, .ref t, rfl, t, _, rfl, p_place ((p : Int) + 1) ht1, rfl, ?_⟩
        have hn' : n < 1099511627776 := hn
        have zm0 : 0 ≤ z % 2147483647 := Int.emod_nonneg _ (by decide)
        have zm1 : z % 2147483647 < 2147483647 := Int.emod_lt_of_pos _ (by decide)
        have b0 : (z % 2147483647 + 69621 * (p : Int) + 48271).natAbs < 2 ^ 64 := by omega
        refine ⟨.int z, rfl, z, 2147483647, rfl, rfl, (by show (0 : Int) < 2147483647; decide), .int p, rfl, 69621, (p : Int), rfl, rfl, .inl ⟨by decide, by decide⟩, _, _, rfl, rfl, _, 48271, rfl, rfl, _, 17, rfl, rfl, ⟨by decide, by decide, b0⟩, 10, 50, rfl, rfl, ⟨by decide, by decide, by decide⟩, _, 151, rfl, rfl, _, _, rfl, rfl, ?_, ?_⟩
        · exact (by decide +kernel : (0 : Int) < 10 ^ (50 : Int).toNat + 151)
        have ht2 : (upd (upd H q (.tup [.int z, .int ((p : Int) + 1)])) t (.dK (tpd c ((p : Int) + 1) l))) t = some (.dK (tpd c ((p : Int) + 1) l)) := upd_same
        refine ⟨.ref t, rfl, t, _, rfl, p_left ((z % 2147483647 + 69621 * (p : Int) + 48271) ^ (17 : Int).toNat % (10 ^ (50 : Int).toNat + 151)) ht2, ?_⟩
        have x0 : 0 ≤ (z % 2147483647 + 69621 * (p : Int) + 48271) ^ (17 : Int).toNat % (10 ^ (50 : Int).toNat + 151) := Int.emod_nonneg _ (by decide +kernel)
        generalize (z % 2147483647 + 69621 * (p : Int) + 48271) ^ (17 : Int).toNat % (10 ^ (50 : Int).toNat + 151) = x17 at x0 ⊢
        have k3 : Kp t H (upd (upd (upd H q (.tup [.int z, .int ((p : Int) + 1)])) t (.dK (tpd c ((p : Int) + 1) l))) t (.dK (tpd c ((p : Int) + 1) x17))) := ((Kp.of ht s1).trans (kp_put ht1)).trans (kp_put ht2)
        have hc3 := k3.at hc (fun _ z => by cases z)
        refine ⟨.int z, rfl, 10, 18, rfl, rfl, ⟨by decide, by decide, by decide⟩, z, _, rfl, rfl, _, rfl, ite2 (fun e2 => ?_) (fun e2 => ?_)⟩
        · refine ⟨.int p, rfl, _, rfl, _, _, rfl, rfl, _, rfl, ite2 (fun e3 => ?_) (fun e3 => ?_)⟩
          · have hz : (0 : Int) ≤ z - 10 ^ (18 : Int).toNat := by
              have e4 : (10 : Int) ^ (18 : Int).toNat ≤ z := of_decide_eq_true e2
              omega
            refine ⟨.int z, rfl, 10, 18, rfl, rfl, ⟨by decide, by decide, by decide⟩, z, _, rfl, rfl, .ref t, rfl, t, _, rfl, p_left (z - 10 ^ (18 : Int).toNat) upd_same, ?_⟩
            exact ⟨_, _, _, rfl, k3.trans (kp_put upd_same), tape_put (p := p + 1) upd_same hc3 c0 c63 (by omega) hz⟩
          · exact ⟨_, _, _, rfl, k3, ⟨cells, p + 1, x17, upd_same, hc3, c0, c63, by omega, x0⟩⟩
        · exact ⟨_, _, _, rfl, k3, ⟨cells, p + 1, x17, upd_same, hc3, c0, c63, by omega, x0⟩⟩
      · exact ⟨none, none, none, rfl, Kp.refl T, T.mono (Nat.le_succ n)⟩
    · rintro σ' H' ⟨y2, y3, y4, rfl, k1, T1⟩
      obtain ⟨cells, p, l, ht, hc, c0, c63, hp, l0⟩ := T1.ex
      refine ⟨.ref t, rfl, t, .int l, rfl, g_left ht, .int m, rfl, l, m, rfl, rfl, m0, .ref t, rfl, t, .int l, rfl, g_left ht, .int m, rfl, l, m, rfl, rfl, ⟨m0, m1⟩, by show 2 ≤ sizeLine; decide, fun q hq => ?_⟩
      have s1 : Same H' (upd H' q (.tup [.int (l % m), .int (l / m)])) := same_upd hq
      have ht1 := s1 _ _ ht
      refine ⟨q, _, rfl, SqT.of upd_same, rfl, _, _, rfl, _, _, rfl, .ref t, rfl, t, _, rfl, p_left (l / m) ht1, rfl, ?_⟩
      refine ⟨_, rfl, k _ _ ((k1.trans (T1.kp s1)).trans (kp_put ht1)) (tape_put ht1 (s1 _ _ hc) c0 c63 hp (Int.ediv_nonneg l0 (by omega))) (Int.emod_nonneg _ (by omega)) (Int.emod_lt_of_pos _ m0)⟩
theorem at_cp {α : Type} {xs : List α} {z : Int} {j : Nat} {v : α} (e : z = (j : Int)) (h : xs[j]? = some v) : atI xs z = some v := by
  rw [e]
  exact atI_nat h
theorem scPick : FnScope ["_law_tape", "_law_items"] ["_law_tape", "_law_items"] (defScope sPick) := ⟨rfl, rfl, rfl, by decide +kernel, rfl, by decide +kernel, by decide +kernel⟩
theorem ok_pick (D : Df K mg "_law_pick" sPick ["_law_tape", "_law_items"]) (Dd : Df K mg "_law_draw" sDraw ["_law_tape", "_law_many"]) (ml : mg "len" = none) : FnOk P w K mg base CX0 2 D.f D.fd ["_law_tape", "_law_items"] (spPick K) := by
  have Gd : FnOk P w K mg base CX0 1 Dd.f Dd.fd ["_law_tape", "_law_many"] spDraw := ok_draw Dd ml
  refine D.F.ok scPick (fun vs H Q E h => ?_) (fun cdv A outer s H vs Q E hr h => ?_)
  · obtain ⟨t, c, n, x, rfl, _⟩ := h
    rfl
  · obtain ⟨t, c, n, x, rfl, T, hn, h⟩ := h
    rcases h with ⟨a, xs, rfl, hx, ne, hl, k⟩ | ⟨z, rfl, ne, hl, k⟩
    · refine ⟨_, pss_one (ps_ret (pe_ix ix_list (pv 1) (pe_call Gd hr (by rfl) Dd.g Dd.F.kp Dd.b .nil pass0 (pa_cons (pv 0) (pa_cons (pe_callB call_len_seq (by rfl) ml PySem.boot_len (pa_cons (pv 1) pa_nil)) pa_nil))) (fun _ _ => rfl))), ?_⟩
      have l0 : 0 < xs.length := List.length_pos_iff.mpr ne
      refine ⟨.ref a, rfl, .ref t, rfl, .ref a, rfl, a, xs, rfl, .inl hx, t, c, _, n, rfl, T, hn, by omega, by omega, fun H' r k1 T1 r0 r1 => ?_⟩
      have rl : r.toNat < xs.length := by omega
      refine ⟨a, xs, r, xs[r.toNat], rfl, rfl, k1.lst hx, at_of (j := r.toNat) (by omega) (List.getElem?_eq_getElem rl), k H' _ k1 T1 (List.getElem_mem rl)⟩
    · refine ⟨_, pss_one (ps_ret (pe_ix ix_str (pv 1) (pe_call Gd hr (by rfl) Dd.g Dd.F.kp Dd.b .nil pass0 (pa_cons (pv 0) (pa_cons (pe_callB call_len_str (by rfl) ml PySem.boot_len (pa_cons (pv 1) pa_nil)) pa_nil))) (fun _ _ => rfl))), ?_⟩
      have zl : z.cps.toList.length = z.length := Array.length_toList
      refine ⟨.str z, rfl, .ref t, rfl, .str z, rfl, z, rfl, ?_, t, c, _, n, rfl, T, hn, by omega, by omega, fun H' r k1 T1 r0 r1 => ?_⟩
      · rw [sizeLine_eq]; omega
      have rl : r.toNat < z.cps.toList.length := by omega
      refine ⟨z, r, z.cps.toList[r.toNat], rfl, rfl, ?_, at_cp (by omega) (List.getElem?_eq_getElem rl), k H' _ k1 T1 (List.getElem_mem rl)⟩
      rw [sizeLine_eq]
      omega
end
end DW
namespace DW
open PySem PySem.Spec PyProof.Rows L2 TL
set_option autoImplicit false
/-! ### texts as lists of codes -/
def one (c : Nat) : Str := ⟨#[c]⟩
theorem tl_one (c : Nat) : tl (one c) = [c] := rfl
theorem tl_inj {x y : Str} (h : tl x = tl y) : x = y := by
  obtain ⟨⟨a⟩⟩ := x
  obtain ⟨⟨b⟩⟩ := y
  have e : a = b := h
  rw [e]
theorem joinL_nil : ∀ l : List (List Nat), joinL [] l = l.flatten
  | [] => rfl
  | [p] => by simp [joinL]
  | p :: q :: r => by
    show p ++ ([] ++ joinL [] (q :: r)) = (p :: q :: r).flatten
    rw [joinL_nil (q :: r)]
    simp
theorem tl_cat (ys : List Str) : tl (Txt.join "" ys) = (ys.map tl).flatten := by
  have e : tl (Str.join "" ys) = joinL (tl "") (ys.map tl) := tl_join "" ys
  rw [join_eq, e, show tl "" = [] from rfl, joinL_nil]
theorem flat_ones (cs : List Nat) : ((cs.map one).map tl).flatten = cs := by
  induction cs with
  | nil => rfl
  | cons c r ih =>
    show [c] ++ ((r.map one).map tl).flatten = c :: r
    rw [ih]
    rfl
theorem lt_ones (x p : Nat) : ltCps (tl (one x)) (tl (one p)) = decide (x < p) := by
  simp [one, ltCps]
theorem sorted_ones : ∀ ys : List Str, (∀ y ∈ ys, ∃ c, y = one c) → ys.Nodup → sortedS ys = true → ∃ cs : List Nat, ys = cs.map one ∧ cs.Pairwise (· < ·)
  | [], _, _, _ => ⟨[], rfl, List.Pairwise.nil⟩
  | [y], h, _, _ => by
    obtain ⟨c, rfl⟩ := h y List.mem_cons_self
    exact ⟨[c], rfl, List.pairwise_singleton _ _⟩
  | y :: z :: r, h, nd, so => by
    obtain ⟨hy, nd'⟩ := List.nodup_cons.mp nd
    obtain ⟨c, rfl⟩ := h y List.mem_cons_self
    obtain ⟨d, rfl⟩ := h z (List.mem_cons_of_mem _ List.mem_cons_self)
    have so' : (!ltCps (tl (one d)) (tl (one c)) && risingS (one d) r) = true := so
    rw [Bool.and_eq_true] at so'
    obtain ⟨cs, e, pw⟩ := sorted_ones (one d :: r) (fun u hu => h u (List.mem_cons_of_mem _ hu)) nd' so'.2
    have lt : c < d := by
      have q := so'.1
      rw [lt_ones] at q
      have n1 : ¬ d < c := by simpa using q
      have n2 : c ≠ d := fun z => hy (by rw [z]; exact List.mem_cons_self)
      omega
    cases cs with
    | nil => cases e
    | cons d' cs =>
      have e1 : one d = one d' := (List.cons.inj e).1
      have e2 : d = d' := by
        have q := congrArg tl e1
        exact (List.cons.inj q).1
      subst e2
      refine ⟨c :: d :: cs, by rw [List.map_cons, ← e], List.pairwise_cons.mpr ⟨fun u hu => ?_, pw⟩⟩
      rcases List.mem_cons.mp hu with q | q
      · omega
      · have := (List.pairwise_cons.mp pw).1 u q
        omega
theorem sum_ones : ∀ ys : List Str, (∀ y ∈ ys, ∃ c, y = one c) → (ys.map (·.length)).sum = ys.length
  | [], _ => rfl
  | y :: r, h => by
    obtain ⟨c, rfl⟩ := h y List.mem_cons_self
    rw [List.map_cons, List.sum_cons, sum_ones r fun u hu => h u (List.mem_cons_of_mem _ hu), List.length_cons]
    show 1 + r.length = r.length + 1
    omega
theorem yes {σ : L2.St} {H : Hp} {F G : Hp → Prop} (h : F H) : tYes σ H (fun b H3 => if b = true then F H3 else G H3) := by
  show (if true = true then F H else G H)
  rw [if_pos rfl]
  exact h
/-- an alphabet -/
def Alph (z : Str) : Prop := (tl z).Pairwise (· < ·) ∧ 1 ≤ (tl z).length ∧ (tl z).length ≤ 3 ∧ ∀ c ∈ tl z, 97 ≤ c ∧ c ≤ 122
def abc : Str := "abcdefghijklmnopqrstuvwxyz"
theorem abc_low : ∀ c ∈ tl abc, 97 ≤ c ∧ c ≤ 122 := by decide +kernel
theorem abc_len : (tl abc).length = 26 := by decide +kernel
theorem al1 : Alph "ab" := by unfold Alph; decide +kernel
theorem al2 : Alph "abc" := by unfold Alph; decide +kernel
theorem al3 : Alph "a" := by unfold Alph; decide +kernel
theorem al4 : Alph "bx" := by unfold Alph; decide +kernel
theorem al5 : Alph "cmz" := by unfold Alph; decide +kernel
theorem alph_of {ds : List Nat} {ls ys : List Str} (h1 : 1 ≤ ds.length) (h3 : ds.length ≤ 3) (low : ∀ c ∈ ds, 97 ≤ c ∧ c ≤ 122) (nd : ls.Nodup) (mem : ∀ k, k ∈ ls ↔ k ∈ ds.map one) (le : ls.length ≤ (ds.map one).length)
    (pm : ys.Perm ls) (so : sortedS ys = true) : Alph (Txt.join "" ys) := by
  have hm : ∀ y ∈ ys, y ∈ ds.map one := fun y hy => (mem y).mp (pm.mem_iff.mp hy)
  obtain ⟨cs, rfl, pw⟩ := sorted_ones ys (fun y hy => by
    obtain ⟨c, _, e⟩ := List.mem_map.mp (hm y hy)
    exact ⟨c, e.symm⟩) (pm.nodup_iff.mpr nd) so
  have e : tl (Txt.join "" (cs.map one)) = cs := by rw [tl_cat, flat_ones]
  have hl : cs.length = ls.length := by
    have q := pm.length_eq
    rw [List.length_map] at q
    exact q
  rw [List.length_map] at le
  unfold Alph
  rw [e]
  refine ⟨pw, ?_, by omega, fun c hc => ?_⟩
  · cases ds with
    | nil => cases h1
    | cons d r =>
      have q : one d ∈ ls := (mem _).mpr List.mem_cons_self
      have q2 : one d ∈ cs.map one := pm.mem_iff.mpr q
      have := List.length_pos_of_mem q2
      rw [List.length_map] at this
      omega
  · obtain ⟨d, hd, e⟩ := List.mem_map.mp (hm (one c) (List.mem_map.mpr ⟨c, hc, rfl⟩))
    have e2 : d = c := by
      have q := congrArg tl e
      exact (List.cons.inj q).1
    rw [← e2]
    exact low d hd
/-! ### what the module's names hold -/
structure Bl (mg : Str → Option Value) : Prop where
  len : mg "len" = none
  range : mg "range" = none
  sorted : mg "sorted" = none
  set : mg "set" = none
def spAlpha : Sp := fun vs H Q _ => ∃ (t c : Addr) (n : Nat), vs = [.ref t] ∧ Tape H t c n ∧ n + 10 < 2 ^ 40 ∧ ∀ H' z, Kp t H H' → Tape H' t c (n + 10) → Alph z → Q (.str z) H'
abbrev DfDraw (K : PySem.W.Frag) (mg : Str → Option Value) := Df K mg "_law_draw" sDraw ["_law_tape", "_law_many"]
abbrev DfPick (K : PySem.W.Frag) (mg : Str → Option Value) := Df K mg "_law_pick" sPick ["_law_tape", "_law_items"]
end DW
namespace DW
open PySem PySem.Spec PyProof.Rows L2 TL
set_option autoImplicit false
section
variable {P : Program} {w : World} {K : PySem.W.Frag} {mg : Str → Option Value} {base : Heap}
theorem scAlpha : FnScope ["_law_tape"] ["_law_tape"] (defScope sAlpha) := ⟨rfl, rfl, rfl, by decide +kernel, rfl, by decide +kernel, by decide +kernel⟩
theorem ok_alpha (D : Df K mg "_law_alphabet" sAlpha ["_law_tape"]) (Dd : DfDraw K mg) (Dp : DfPick K mg) (B : Bl mg) : FnOk P w K mg base CX0 3 D.f D.fd ["_law_tape"] spAlpha := by
  have Gp : FnOk P w K mg base CX0 2 Dp.f Dp.fd ["_law_tape", "_law_items"] (spPick K) := ok_pick Dp Dd B.len
  refine D.F.ok scAlpha (fun vs H Q E h => ?_) (fun cdv A outer s H vs Q E hr h => ?_)
  · obtain ⟨t, c, n, rfl, _⟩ := h
    rfl
  · obtain ⟨t, c, n, rfl, T, hn, k⟩ := h
    refine ⟨_, pss_one (ps_ret (pe_call Gp hr (by rfl) Dp.g Dp.F.kp Dp.b .nil pass0 (pa_cons (pv 0) (pa_cons (pe_lst (pa_cons pe_str (pa_cons pe_str (pa_cons pe_str (pa_cons pe_str (pa_cons pe_str (pa_cons pe_str pa_nil))))))) pa_nil)))), ?_⟩
    refine ⟨.ref t, rfl, by show 6 ≤ sizeLine; decide, fun l1 e1 => ?_⟩
    have s1 := same_upd (o := .lst [V.str "ab", V.str "ab", V.str "abc", V.str "a", V.str "bx", V.str "cmz"]) e1
    refine ⟨t, c, n, .ref l1, rfl, T.same s1, by omega, .inl ⟨l1, _, rfl, SqL.of upd_same, by simp, by show 6 < 2 ^ 30; decide, fun H' y k' T' hy => ?_⟩⟩
    have hy' : ∃ z, y = V.str z ∧ Alph z := by
      simp only [List.mem_cons, List.not_mem_nil, or_false] at hy
      rcases hy with q | q | q | q | q | q
      · exact ⟨_, q, al1⟩
      · exact ⟨_, q, al1⟩
      · exact ⟨_, q, al2⟩
      · exact ⟨_, q, al3⟩
      · exact ⟨_, q, al4⟩
      · exact ⟨_, q, al5⟩
    obtain ⟨z, rfl, az⟩ := hy'
    exact k H' z ((T.kp s1).trans k') (T'.mono (by omega)) az
end
end DW
namespace DW
open PySem PySem.Spec PyProof.Rows L2 TL
set_option autoImplicit false
/-! ### text * int, repr(text) -/
theorem foldl_app : ∀ (l : List (Array Nat)) (acc : Array Nat), (l.foldl (· ++ ·) acc).toList = acc.toList ++ (l.map Array.toList).flatten
  | [], acc => by simp
  | a :: r, acc => by
    rw [List.foldl_cons, foldl_app r, Array.toList_append, List.map_cons, List.flatten_cons, List.append_assoc]
theorem tl_mul (z : Str) (k : Int) : tl (Txt.mul z k) = (List.replicate k.toNat (tl z)).flatten := by
  unfold Txt.mul
  by_cases h : k < 1
  · rw [if_pos h, show k.toNat = 0 by omega]
    rfl
  · rw [if_neg h]
    by_cases h2 : (k == 1 || z.length == 0) = true
    · rw [if_pos h2]
      rw [Bool.or_eq_true] at h2
      rcases h2 with e | e
      · rw [eq_of_beq e]
        simp
      · have e0 : tl z = [] := List.length_eq_zero_iff.mp (by rw [Array.length_toList]; exact eq_of_beq e)
        rw [e0]
        simp
    · rw [if_neg h2]
      show ((List.replicate k.toNat z.cps).foldl (· ++ ·) #[]).toList = _
      rw [foldl_app, List.map_replicate]
      simp
section
variable {X : Cx}
def rRepS : R2 := fun x y H Q => ∃ (z : Str) (k : Int), x = .str z ∧ y = .int k ∧ 0 ≤ k ∧ k ≤ 1000 ∧ z.length ≤ 1000 ∧ ∀ r : Str, tl r = (List.replicate k.toNat (tl z)).flatten → Q (.str r) H
theorem op_repS : OpR X (binaryOp .Mult) rRepS := by
  intro pins s σ H x y v u Q I rx ry h
  obtain ⟨z, k, rfl, rfl, k0, k1, zl, q⟩ := h
  obtain ⟨t, rfl⟩ := rx
  obtain ⟨t2, rfl⟩ := ry
  have pr : z.length * k.toNat ≤ 1000 * 1000 := Nat.mul_le_mul zl (by omega)
  refine SB.mul ⟨?_, fun h1 _ h3 => ?_, fun _ _ => ?_⟩ fun t' tk => ⟨.str (Txt.mul z k), H, I.tok _, ⟨_, rfl⟩, q _ (tl_mul z k)⟩
  · have a : ¬ k < -(2 ^ 63) := by omega
    have b : ¬ k ≥ 2 ^ 63 := by omega
    simp [a, b]
    omega
  · have e : (z.length : Int) ≤ (2 ^ 63 - 1) / k := by
      rw [Int.le_ediv_iff_mul_le (by omega)]
      have : ((z.length * k.toNat : Nat) : Int) ≤ 1000 * 1000 := by exact_mod_cast pr
      rw [Int.natCast_mul, Int.toNat_of_nonneg k0] at this
      omega
    omega
  · unfold Builtin.Str.tooLong
    rw [sizeLine_eq]
    simp
    omega
theorem cr_reprS : CallR X (.builtin "repr") (fun xs H Q => ∃ y : Str, xs = [.str y] ∧ (reprText y).length ≤ sizeLine ∧ Q (.str (reprText y)) H) := by
  intro pins s σ H xs us Q I r h
  obtain ⟨y, rfl, hz, q⟩ := h
  obtain ⟨u, rfl, t, rfl⟩ := vals1 r
  exact PySem.P.repr_of_str ⟨.str _, H, I.tok _, ⟨_, rfl⟩, q⟩ hz
end
theorem rc_le : ∀ c, c < 128 → (Builtin.Str.reprChar 34 c).length ≤ 4 ∧ (Builtin.Str.reprChar 39 c).length ≤ 4 := by decide +kernel
theorem rq (x : Str) : reprQuote x = 34 ∨ reprQuote x = 39 := by
  unfold reprQuote
  split
  · exact .inl rfl
  · exact .inr rfl
theorem repr_fold (q : Nat) (hq : q = 34 ∨ q = 39) : ∀ (l : List Nat) (n : Nat), (∀ c ∈ l, c < 128) → l.foldl (fun n c => n + (Builtin.Str.reprChar q c).length) n ≤ n + 4 * l.length
  | [], n, _ => by simp
  | c :: r, n, h => by
    have h1 := rc_le c (h c List.mem_cons_self)
    have h2 : (Builtin.Str.reprChar q c).length ≤ 4 := by
      rcases hq with e | e
      · rw [e]; exact h1.1
      · rw [e]; exact h1.2
    have ih := repr_fold q hq r (n + (Builtin.Str.reprChar q c).length) fun d hd => h d (List.mem_cons_of_mem _ hd)
    rw [List.foldl_cons, List.length_cons]
    omega
theorem repr_le {x : Str} (h : ∀ c ∈ tl x, c < 128) : (reprText x).length ≤ 2 + 4 * (tl x).length := by
  rw [← reprLen_eq, ← Array.foldl_toList]
  exact repr_fold _ (rq x) _ _ h
/-! ### factors, products -/
abbrev Fc := Bool × Str
def kd (b : Bool) : Str := if b then "star" else "opt"
def IsF (K : PySem.W.Frag) (H : Hp) (v : V) (f : Fc) : Prop := ∃ a, v = .ref a ∧ SqT K H a [.str (kd f.1), .str f.2]
def FOk (z : Str) (f : Fc) : Prop := tl f.2 ≠ [] ∧ (tl f.2).Sublist (tl z) ∧ (f.1 = false → (tl f.2).length = 1)
inductive IsFs (K : PySem.W.Frag) (H : Hp) : List V → List Fc → Prop where
  | nil : IsFs K H [] []
  | cons {v : V} {f : Fc} {vs : List V} {fs : List Fc} (h : IsF K H v f) (r : IsFs K H vs fs) : IsFs K H (v :: vs) (f :: fs)
theorem IsFs.snoc {K : PySem.W.Frag} {H : Hp} {v : V} {f : Fc} : ∀ {vs : List V} {fs : List Fc}, IsFs K H vs fs → IsF K H v f → IsFs K H (vs ++ [v]) (fs ++ [f])
  | _, _, .nil, h => .cons h .nil
  | _, _, .cons a r, h => .cons a (r.snoc h)
theorem IsFs.len {K : PySem.W.Frag} {H : Hp} : ∀ {vs : List V} {fs : List Fc}, IsFs K H vs fs → vs.length = fs.length
  | _, _, .nil => rfl
  | _, _, .cons _ r => by rw [List.length_cons, List.length_cons, r.len]
theorem IsFs.get {K : PySem.W.Frag} {H : Hp} : ∀ {vs : List V} {fs : List Fc}, IsFs K H vs fs → ∀ (i : Nat) (v : V), vs[i]? = some v → ∃ f, fs[i]? = some f ∧ IsF K H v f
  | _, _, .nil, i, v, h => by simp at h
  | _, _, .cons a r, 0, v, h => by
    have e := Option.some.inj h
    subst e
    exact ⟨_, rfl, a⟩
  | _, _, .cons a r, i + 1, v, h => r.get i v h
theorem IsF.mono {K : PySem.W.Frag} {H H' : Hp} {v : V} {f : Fc} (h : IsF K H v f) (m : ∀ b xs, SqT K H b xs → SqT K H' b xs) : IsF K H' v f := by
  obtain ⟨a, e, q⟩ := h
  exact ⟨a, e, m _ _ q⟩
theorem IsFs.mono {K : PySem.W.Frag} {H H' : Hp} (m : ∀ b xs, SqT K H b xs → SqT K H' b xs) : ∀ {vs : List V} {fs : List Fc}, IsFs K H vs fs → IsFs K H' vs fs
  | _, _, .nil => .nil
  | _, _, .cons a r => .cons (a.mono m) (r.mono m)
theorem same_tup {H H' : Hp} {K : PySem.W.Frag} (s : Same H H') (b : Addr) (xs : List V) (h : SqT K H b xs) : SqT K H' b xs := by
  rcases h with (h | ⟨o, h⟩) | h
  · exact .inl (.inl (s _ _ h))
  · exact .inl (.inr ⟨o, s _ _ h⟩)
  · exact .inr h
theorem kp_tup {t : Addr} {H H' : Hp} {K : PySem.W.Frag} (k : Kp t H H') (b : Addr) (xs : List V) (h : SqT K H b xs) : SqT K H' b xs := k.tup h
/-- a store at what is no tuple -/
theorem upd_tup {H : Hp} {D : Addr} {xs0 : List V} {o : HO} {K : PySem.W.Frag} (hD : H D = some (.lst xs0)) (b : Addr) (xs : List V) (h : SqT K H b xs) : SqT K (upd H D o) b xs := by
  rcases h with (h | ⟨u, h⟩) | h
  · exact .inl (.inl ((upd_ne (ne_of h hD (by intro z; cases z))).trans h))
  · exact .inl (.inr ⟨u, (upd_ne (ne_of h hD (by intro z; cases z))).trans h⟩)
  · exact .inr h
def IsP (K : PySem.W.Frag) (H : Hp) (v : V) (fs : List Fc) : Prop := ∃ a xs, v = .ref a ∧ SqT K H a xs ∧ IsFs K H xs fs
theorem IsP.mono {K : PySem.W.Frag} {H H' : Hp} {v : V} {fs : List Fc} (h : IsP K H v fs) (m : ∀ b xs, SqT K H b xs → SqT K H' b xs) : IsP K H' v fs := by
  obtain ⟨a, xs, e, q, r⟩ := h
  exact ⟨a, xs, e, m _ _ q, r.mono m⟩
def spFactor (K : PySem.W.Frag) : Sp := fun vs H Q _ => ∃ (t c : Addr) (n : Nat) (z : Str), vs = [.ref t, .str z] ∧ Tape H t c n ∧ n + 10 < 2 ^ 40 ∧ Alph z ∧ ∀ H' v f, Kp t H H' → Tape H' t c (n + 10) → IsF K H' v f → FOk z f → Q v H'
def spProduct (K : PySem.W.Frag) : Sp := fun vs H Q _ => ∃ (t c : Addr) (n : Nat) (z : Str) (m : Int), vs = [.ref t, .str z, .int m] ∧ Tape H t c n ∧ n + 1000 < 2 ^ 40 ∧ Alph z ∧ 0 ≤ m ∧ m ≤ 50 ∧
  ∀ H' v fs, Kp t H H' → Tape H' t c (n + 1000) → IsP K H' v fs → (∀ f ∈ fs, FOk z f) → (fs.length : Int) ≤ m → Q v H'
section
variable {P : Program} {w : World} {K : PySem.W.Frag} {mg : Str → Option Value} {base : Heap}
theorem scFactor : FnScope ["_law_tape", "_law_alphabet_here", "_law_letters", "_law_letter"] ["_law_tape", "_law_alphabet_here"] (defScope sFactor) := ⟨rfl, rfl, rfl, by decide +kernel, rfl, by decide +kernel, by decide +kernel⟩
theorem ok_factor (D : Df K mg "_law_factor" sFactor ["_law_tape", "_law_alphabet_here"]) (Dd : DfDraw K mg) (Dp : DfPick K mg) (B : Bl mg) : FnOk P w K mg base CX0 3 D.f D.fd ["_law_tape", "_law_alphabet_here"] (spFactor K) := by
  have Gd : FnOk P w K mg base CX0 1 Dd.f Dd.fd ["_law_tape", "_law_many"] spDraw := ok_draw Dd B.len
  have Gp : FnOk P w K mg base CX0 2 Dp.f Dp.fd ["_law_tape", "_law_items"] (spPick K) := ok_pick Dp Dd B.len
  refine D.F.ok scFactor (fun vs H Q E h => ?_) (fun cdv A outer s H vs Q E hr h => ?_)
  · obtain ⟨t, c, n, z, rfl, _⟩ := h
    rfl
  · obtain ⟨t, c, n, z, rfl, T, hn, al, k⟩ := h
    have hr1 : Room 1 _ := hr.mono (by decide)
    have zl : z.length = (tl z).length := (Array.length_toList).symm
    obtain ⟨pw, l1, l3, low⟩ := al
    refine ⟨_, pss_cons (ps_if (pt_cmpR op_gt (pe_call Gd hr1 (by rfl) Dd.g Dd.F.kp Dd.b .nil pass0 (pa_cons (pv 0) (pa_cons pe_int pa_nil))) pe_int (nomark _))
        (pss_one (ps_ret (pe_tup (pa_cons pe_str (pa_cons (pe_call Gp hr (by rfl) Dp.g Dp.F.kp Dp.b .nil pass0 (pa_cons (pv 0) (pa_cons (pv 1) pa_nil))) pa_nil))))) pss_nil)
      (pss_cons (ps_set (i := 2) scFactor.nd rfl (Or.inl rfl) (pe_join pe_str (pe_lc (own := [("_law_letter", 3)]) (g := gName 3) rfl scFactor.nd (pi_str (pv 1))
          (blkOk_by (N := ["_law_tape", "_law_alphabet_here", "_law_letters", "_law_letter"]) (sc := defScope sFactor) (by decide +kernel)) (fun _ _ _ _ _ => pg_name (i := 3) scFactor.nd rfl (Or.inl rfl))
          (fun _ _ _ _ _ => pts_one (pt_cmpR op_eq (pe_call Gd hr1 (by rfl) Dd.g Dd.F.kp Dd.b .nil pass0 (pa_cons (pv 0) (pa_cons pe_int pa_nil))) pe_int (nomark _))) (fun _ _ _ _ _ => pv 3))))
      (pss_one (ps_ret (pe_tup (pa_cons pe_str (pa_cons (pe_ifExp (pt_cmpR op_ne (pv 2) pe_str (nomark _)) (pv 2) (pe_call Gp hr (by rfl) Dp.g Dp.F.kp Dp.b .nil pass0 (pa_cons (pv 0) (pa_cons (pv 1) pa_nil)))) pa_nil)))))), ?_⟩
    refine ⟨.ref t, rfl, t, c, 3, n, rfl, T, by omega, by decide, by decide, fun H1 r k1 T1 r0 r1 => ?_⟩
    refine ⟨r, 0, rfl, rfl, _, rfl, ite2 (fun e => ?_) (fun e => ?_)⟩
    · refine ⟨.ref t, rfl, .str z, rfl, t, c, n + 1, .str z, rfl, T1, by omega, .inr ⟨z, rfl, by omega, by omega, fun H2 d k2 T2 hd => ?_⟩⟩
      refine ⟨by show 2 ≤ sizeLine; decide, fun p hp => ?_⟩
      have s3 := same_upd (o := .tup [.str "opt", .str ⟨#[d]⟩]) hp
      exact k _ _ (false, one d) ((k1.trans k2).trans (T2.kp s3)) ((T2.same s3).mono (by omega)) ⟨p, rfl, SqT.of upd_same⟩ ⟨by simp [one], by show [d].Sublist _; exact List.singleton_sublist.mpr hd, fun _ => rfl⟩
    · refine ⟨⟨_, rfl⟩, .str z, rfl, z, rfl, fun D hD => ?_⟩
      have D1 := T1.ne1 hD
      have D2 := T1.ne2 hD
      have D0 := k1.gone hD
      have zs : z.cps.size = (tl z).length := (Array.length_toList).symm
      refine lc_it walk_str (fun i H' => ∃ ds : List Nat, ds.Sublist ((tl z).take i) ∧ H' D = some (.lst ((ds.map one).map V.str)) ∧ Kp t H H' ∧ Tape H' t c (n + 1 + i)) ?_ (fun _ _ _ _ => trivial) ?_ ?_
      · exact ⟨[], List.nil_sublist _, upd_same, k1.put D0 D1, T1.upd D1 D2⟩
      · rintro i x G G' hi ⟨ds, sub, gD, kG, TG⟩ ⟨rfl, d, hd, rfl⟩
        have hd' : (tl z)[i]? = some d := by rw [Array.getElem?_toList]; exact hd
        have tk : (tl z).take (i + 1) = (tl z).take i ++ [d] := by rw [List.take_add_one, hd'] <;> rfl
        have dl : ds.length ≤ 3 := Nat.le_trans (Nat.le_trans sub.length_le (List.length_take_le' ..)) l3
        refine ⟨rfl, .ref t, rfl, t, c, 2, n + 1 + i, rfl, TG, by omega, by decide, by decide, fun H4 q k4 T4 q0 q1 => ?_⟩
        have gD4 := k4.at gD (fun _ z => by cases z)
        refine ⟨rfl, _, rfl, ite2 (fun e2 => ?_) (fun e2 => ?_)⟩
        · refine ⟨_, rfl, _, gD4, ?_, ds ++ [d], ?_, ?_, (kG.trans k4).put D0 D1, T4.upd D1 D2⟩
          · rw [List.length_map, List.length_map, sizeLine_eq]
            omega
          · rw [tk]
            exact sub.append (List.Sublist.refl _)
          · rw [upd_same, List.map_append, List.map_append]
            rfl
        · refine ⟨ds, ?_, gD4, kG.trans k4, T4⟩
          rw [tk]
          exact sub.trans (List.sublist_append_left _ _)
      · rintro G ⟨ds, sub, gD, kG, TG⟩
        have sub' : ds.Sublist (tl z) := sub.trans (List.take_sublist _ _)
        have dl : ds.length ≤ 3 := Nat.le_trans sub'.length_le l3
        refine ⟨"", D, ds.map one, rfl, rfl, .inl (SqL.of gD), ?_, ?_⟩
        · rw [sum_ones _ fun y hy => ?_, List.length_map]
          · show ds.length + ds.length * 0 ≤ 16777216
            omega
          · obtain ⟨u, _, e⟩ := List.mem_map.mp hy
            exact ⟨u, e.symm⟩
        have ej : tl (Txt.join "" (ds.map one)) = ds := by rw [tl_cat, flat_ones]
        refine ⟨.str (Txt.join "" (ds.map one)), rfl, rfl, _, rfl, ite2 (fun e2 => ?_) (fun e2 => ?_)⟩
        · refine ⟨_, rfl, by show 2 ≤ sizeLine; decide, fun p hp => ?_⟩
          have s3 := same_upd (o := .tup [.str "star", .str (Txt.join "" (ds.map one))]) hp
          refine k _ _ (true, Txt.join "" (ds.map one)) (kG.trans (TG.kp s3)) ((TG.same s3).mono (by omega)) ⟨p, rfl, SqT.of upd_same⟩ ⟨?_, by rw [ej]; exact sub', fun z => by cases z⟩
          intro z0
          have e3 : Txt.join "" (ds.map one) = ("" : Str) := tl_inj z0
          rw [e3] at e2
          exact absurd e2 (by decide +kernel)
        · refine ⟨.ref t, rfl, .str z, rfl, t, c, n + 1 + z.cps.size, .str z, rfl, TG, by omega, .inr ⟨z, rfl, by omega, by omega, fun H2 d k2 T2 hd => ?_⟩⟩
          refine ⟨by show 2 ≤ sizeLine; decide, fun p hp => ?_⟩
          have s3 := same_upd (o := .tup [.str "star", .str ⟨#[d]⟩]) hp
          exact k _ _ (true, one d) ((kG.trans k2).trans (T2.kp s3)) ((T2.same s3).mono (by omega)) ⟨p, rfl, SqT.of upd_same⟩ ⟨by simp [one], by show [d].Sublist _; exact List.singleton_sublist.mpr hd, fun z => by cases z⟩
theorem scProduct : FnScope ["_law_tape", "_law_alphabet_here", "_law_longest", "_law_k"] ["_law_tape", "_law_alphabet_here", "_law_longest"] (defScope sProduct) := ⟨rfl, rfl, rfl, by decide +kernel, rfl, by decide +kernel, by decide +kernel⟩
theorem ok_product (D : Df K mg "_law_product" sProduct ["_law_tape", "_law_alphabet_here", "_law_longest"]) (Df0 : Df K mg "_law_factor" sFactor ["_law_tape", "_law_alphabet_here"]) (Dd : DfDraw K mg) (Dp : DfPick K mg) (B : Bl mg) (mt : mg "tuple" = none) :
    FnOk P w K mg base CX0 4 D.f D.fd ["_law_tape", "_law_alphabet_here", "_law_longest"] (spProduct K) := by
  have Gd : FnOk P w K mg base CX0 1 Dd.f Dd.fd ["_law_tape", "_law_many"] spDraw := ok_draw Dd B.len
  have Gf : FnOk P w K mg base CX0 3 Df0.f Df0.fd ["_law_tape", "_law_alphabet_here"] (spFactor K) := ok_factor Df0 Dd Dp B
  refine D.F.ok scProduct (fun vs H Q E h => ?_) (fun cdv A outer s H vs Q E hr h => ?_)
  · obtain ⟨t, c, n, z, m, rfl, _⟩ := h
    rfl
  · obtain ⟨t, c, n, z, m, rfl, T, hn, al, m0, m1, k⟩ := h
    have hr1 : Room 1 _ := hr.mono (by decide)
    refine ⟨_, pss_one (ps_ret (pe_callTy call_tuple_of (by rfl) mt (by decide +kernel) (pa_cons (pe_lc (own := [("_law_k", 3)]) (g := gName 3) rfl scProduct.nd
        (pi_range1 rfl B.range (pa_cons (pe_call Gd hr1 (by rfl) Dd.g Dd.F.kp Dd.b .nil pass0 (pa_cons (pv 0) (pa_cons (pe_op op_add (pv 2) pe_int) pa_nil))) pa_nil))
        (blkOk_by (N := ["_law_tape", "_law_alphabet_here", "_law_longest", "_law_k"]) (sc := defScope sProduct) (by decide +kernel)) (fun _ _ _ _ _ => pg_name (i := 3) scProduct.nd rfl (Or.inl rfl)) (fun _ _ _ _ _ => pts_nil)
        (fun _ _ _ _ _ => pe_call Gf hr (by rfl) Df0.g Df0.F.kp Df0.b .nil pass0 (pa_cons (pv 0) (pa_cons (pv 1) pa_nil)))) pa_nil))), ?_⟩
    refine ⟨.ref t, rfl, .int m, rfl, m, 1, rfl, rfl, t, c, m + 1, n, rfl, T, by omega, by omega, by omega, fun H1 r k1 T1 r0 r1 => ?_⟩
    refine ⟨r, rfl, by omega, by omega, fun D hD => ?_⟩
    have D1 := T1.ne1 hD
    have D2 := T1.ne2 hD
    have D0 := k1.gone hD
    refine lc_range (lo := 0) (n := r.toNat) (fun i H' => ∃ (xs : List V) (fs : List Fc), fs.length = i ∧ H' D = some (.lst xs) ∧ IsFs K H' xs fs ∧ (∀ f ∈ fs, FOk z f) ∧ Kp t H H' ∧ Tape H' t c (n + 1 + 10 * i)) ?_ ?_ ?_
    · exact ⟨[], [], rfl, upd_same, .nil, fun f hf => (nomatch hf), k1.put D0 D1, T1.upd D1 D2⟩
    · rintro i G hi ⟨xs, fs, fl, gD, iF, ok, kG, TG⟩
      refine ⟨rfl, yes ?_⟩
      refine ⟨.ref t, rfl, .str z, rfl, t, c, n + 1 + 10 * i, z, rfl, TG, by omega, al, fun H4 v f k4 T4 isf fok => ?_⟩
      have gD4 := k4.at gD (fun _ z => by cases z)
      have iF4 := iF.mono (kp_tup k4)
      refine ⟨xs, gD4, ?_, xs ++ [v], fs ++ [f], by rw [List.length_append, fl]; rfl, upd_same, (iF4.snoc isf).mono (upd_tup gD4), fun g hg => ?_, (kG.trans k4).put D0 D1, (T4.upd D1 D2).mono (by omega)⟩
      · rw [iF.len, fl, sizeLine_eq]
        omega
      · rcases List.mem_append.mp hg with q | q
        · exact ok g q
        · rw [List.mem_singleton.mp q]
          exact fok
    · rintro G ⟨xs, fs, fl, gD, iF, ok, kG, TG⟩
      refine ⟨D, xs, rfl, .inl ⟨SqL.of gD, fun p hp => ?_⟩⟩
      have s3 := same_upd (o := .tup xs) hp
      exact k _ _ fs (kG.trans (TG.kp s3)) ((TG.same s3).mono (by omega)) ⟨p, xs, rfl, SqT.of upd_same, iF.mono (same_tup s3)⟩ ok (by omega)
end
end DW
namespace DW
open PySem PySem.Spec PyProof.Rows L2 TL
set_option autoImplicit false
/-! ### unfoldings -/
theorem upd_upd2 {H : Hp} {d : Addr} {o u : HO} : upd (upd H d o) d u = upd H d u := by
  funext b
  by_cases e : b = d
  · rw [e, upd_same, upd_same]
  · rw [upd_ne e, upd_ne e, upd_ne e]
def piece (m : Nat) (f : Fc) : List Nat := if f.1 = true then (List.replicate m (tl f.2)).flatten else tl f.2
def unf (fs : List Fc) (m : Nat) : List Nat := (fs.map (piece m)).flatten
theorem piece_len {m : Nat} {f : Fc} (hm : m ≤ 1000) (h : (tl f.2).length ≤ 3) : (piece m f).length ≤ 3000 := by
  unfold piece
  by_cases e : f.1 = true
  · rw [if_pos e, List.length_flatten, List.map_replicate, List.sum_replicate_nat]
    have := Nat.mul_le_mul hm h
    omega
  · rw [if_neg e]
    omega
theorem unf_len {m : Nat} (hm : m ≤ 1000) : ∀ fs : List Fc, (∀ f ∈ fs, (tl f.2).length ≤ 3) → (unf fs m).length ≤ 3000 * fs.length
  | [], _ => Nat.le_refl _
  | f :: r, h => by
    have ih := unf_len hm r fun g hg => h g (List.mem_cons_of_mem _ hg)
    have h1 := piece_len hm (h f List.mem_cons_self)
    have e : (unf (f :: r) m).length = (piece m f).length + (unf r m).length := by
      unfold unf
      rw [List.map_cons, List.flatten_cons, List.length_append]
    rw [List.length_cons, e]
    omega
theorem sum_lens (ys : List Str) : (ys.map (·.length)).sum = ((ys.map tl).flatten).length := by
  rw [List.length_flatten, List.map_map]
  exact congrArg List.sum (List.map_congr_left fun y _ => (Array.length_toList).symm)
theorem unf_snoc (fs : List Fc) (m : Nat) {i : Nat} {f : Fc} (h : fs[i]? = some f) : unf (fs.take (i + 1)) m = unf (fs.take i) m ++ piece m f := by
  unfold unf
  rw [List.take_add_one, h]
  simp
theorem kd_opt (b : Bool) : decide (V.str (kd b) = V.str "opt") = !b := by
  cases b
  · exact decide_eq_true rfl
  · exact decide_eq_false (by unfold kd; decide +kernel)
def spUnfold (K : PySem.W.Frag) : Sp := fun vs H Q _ => ∃ (v : V) (fs : List Fc) (m : Int), vs = [v, .int m] ∧ IsP K H v fs ∧ (∀ f ∈ fs, (tl f.2).length ≤ 3) ∧ fs.length ≤ 100 ∧ 0 ≤ m ∧ m ≤ 1000 ∧
  ∀ H' r, Same H H' → tl r = unf fs m.toNat → Q (.str r) H'
section
variable {P : Program} {w : World} {K : PySem.W.Frag} {mg : Str → Option Value} {base : Heap}
theorem scUnfold : FnScope ["product", "count", "kind", "letters"] ["product", "count"] (defScope sUnfold) := ⟨rfl, rfl, rfl, by decide +kernel, rfl, by decide +kernel, by decide +kernel⟩
theorem ok_unfold (D : Df K mg "unfold" sUnfold ["product", "count"]) : FnOk P w K mg base CX0 1 D.f D.fd ["product", "count"] (spUnfold K) := by
  refine D.F.ok scUnfold (fun vs H Q E h => ?_) (fun cdv A outer s H vs Q E hr h => ?_)
  · obtain ⟨v, fs, m, rfl, _⟩ := h
    rfl
  · obtain ⟨v, fs, m, rfl, ⟨a, xs, rfl, ha, iF⟩, hl, hn, m0, m1, k⟩ := h
    refine ⟨_, pss_one (ps_ret (pe_join pe_str (pe_lc (own := [("kind", 2), ("letters", 3)]) (g := gTup K 2 (gCons (gName 2) (gCons (gName 3) gNil))) rfl scUnfold.nd (pi_tup (pv 0))
        (blkOk_by (N := ["product", "count", "kind", "letters"]) (sc := defScope sUnfold) (by decide +kernel))
        (fun _ _ _ _ _ => pg_tup rfl (pgs_cons (pg_name (i := 2) scUnfold.nd rfl (.inl rfl)) (pgs_cons (pg_name (i := 3) scUnfold.nd rfl (.inl rfl)) pgs_nil))) (fun _ _ _ _ _ => pts_nil)
        (fun _ _ _ _ _ => pe_ifExp (pt_cmpR op_eq (pv 2) pe_str (nomark _)) (pv 3) (pe_op op_repS (pv 3) (pv 1)))))), ?_⟩
    refine ⟨⟨_, rfl⟩, .ref a, rfl, a, rfl, ⟨xs, ha⟩, fun D hD => ?_⟩
    have s0 := same_upd (o := .lst []) hD
    refine lc_tup (K := K) (a := a) (xs := xs) (fun i H' => ∃ ys : List Str, H' D = some (.lst (ys.map V.str)) ∧ ys.length = i ∧ (ys.map tl).flatten = unf (fs.take i) m.toNat ∧ Same H H') ?_ ?_ ?_ ?_
    · exact ⟨[], upd_same, rfl, rfl, s0⟩
    · rintro i G hi ⟨ys, _, _, _, sm⟩
      exact same_tup sm _ _ ha
    · rintro i x G hx ⟨ys, gD, yl, ye, sm⟩
      obtain ⟨f, hf, b, rfl, hb⟩ := iF.get i x hx
      have fm : f ∈ fs := List.mem_of_getElem? hf
      refine ⟨b, _, rfl, same_tup sm _ _ hb, rfl, _, _, rfl, _, _, rfl, rfl, rfl, yes ?_⟩
      have nD : ∀ o, Same H (upd G D o) := fun o b u e => (upd_ne (ne_of_none e hD)).trans (sm _ _ e)
      have hsz : (ys.map V.str).length < sizeLine := by
        rw [List.length_map, yl, sizeLine_eq]
        have := (List.getElem?_eq_some_iff.mp hf).1
        omega
      refine ⟨.str (kd f.1), rfl, rfl, _, rfl, ?_⟩
      rw [kd_opt]
      refine ite2 (fun e => ?_) (fun e => ?_)
      · refine ⟨_, rfl, _, gD, hsz, ys ++ [f.2], by rw [upd_same, List.map_append]; rfl, by rw [List.length_append, yl]; rfl, ?_, nD _⟩
        rw [unf_snoc fs _ hf, List.map_append, List.flatten_append, ye]
        have e' : ¬ f.1 = true := by simpa using e
        unfold piece
        rw [if_neg e']
        simp
      · refine ⟨_, rfl, _, rfl, f.2, m, rfl, rfl, m0, m1, ?_, fun r hr => ?_⟩
        · have := hl f fm
          rw [Array.length_toList] at this
          exact Nat.le_trans this (by decide)
        refine ⟨_, gD, hsz, ys ++ [r], by rw [upd_same, List.map_append]; rfl, by rw [List.length_append, yl]; rfl, ?_, nD _⟩
        rw [unf_snoc fs _ hf, List.map_append, List.flatten_append, ye]
        have e' : f.1 = true := by simpa using e
        unfold piece
        rw [if_pos e', ← hr]
        simp
    · rintro G ⟨ys, gD, yl, ye, sm⟩
      rw [iF.len, List.take_length] at ye
      refine ⟨"", D, ys, rfl, rfl, .inl (SqL.of gD), ?_, k _ _ sm (by rw [tl_cat, ye])⟩
      rw [sum_lens, ye]
      have := unf_len (m := m.toNat) (by omega) fs hl
      show _ + ys.length * 0 ≤ _
      omega
end
end DW
namespace DW
open PySem PySem.Spec PyProof.Rows L2 TL
set_option autoImplicit false
theorem tl_app (x y : Str) : tl (x ++ y) = tl x ++ tl y := Array.toList_append
def OverW (z : Str) (u : Str) : Prop := ∀ c ∈ tl u, c ∈ tl z
/-! ### the language of a product -/
abbrev ls (f : Fc) : List Nat := tl f.2
inductive Lg : List Fc → List Nat → Prop where
  | nil : Lg [] []
  | skip {f : Fc} {fs : List Fc} {w : List Nat} (h : Lg fs w) : Lg (f :: fs) w
  | opt {f : Fc} {fs : List Fc} {c : Nat} {w : List Nat} (k : f.1 = false) (m : c ∈ ls f) (h : Lg fs w) : Lg (f :: fs) (c :: w)
  | star {f : Fc} {fs : List Fc} {c : Nat} {w : List Nat} (k : f.1 = true) (m : c ∈ ls f) (h : Lg (f :: fs) w) : Lg (f :: fs) (c :: w)
theorem Lg.empty : ∀ fs : List Fc, Lg fs []
  | [] => .nil
  | _ :: fs => .skip (Lg.empty fs)
theorem Lg.tail {fs : List Fc} {c : Nat} {w : List Nat} (h : Lg fs (c :: w)) : Lg fs w := by
  generalize e : c :: w = u at h
  induction h with
  | nil => cases e
  | skip h ih => exact .skip (ih e)
  | opt k m h ih =>
    cases e
    exact .skip h
  | star k m h ih =>
    cases e
    exact h
theorem Lg.drop {fs : List Fc} : ∀ {u v : List Nat}, Lg fs (u ++ v) → Lg fs v
  | [], _, h => h
  | _ :: _, _, h => Lg.drop (Lg.tail h)
theorem Lg.init {fs : List Fc} {u v : List Nat} (h : Lg fs (u ++ v)) : Lg fs u := by
  generalize e : u ++ v = x at h
  induction h generalizing u with
  | nil =>
    obtain ⟨rfl, _⟩ := List.append_eq_nil_iff.mp e
    exact .nil
  | skip h ih => exact .skip (ih e)
  | opt k m h ih =>
    cases u with
    | nil => exact Lg.empty _
    | cons d u =>
      obtain ⟨rfl, e2⟩ := List.cons.inj e
      exact .opt k m (ih e2)
  | star k m h ih =>
    cases u with
    | nil => exact Lg.empty _
    | cons d u =>
      obtain ⟨rfl, e2⟩ := List.cons.inj e
      exact .star k m (ih e2)
theorem Lg.has {fs : List Fc} {c : Nat} {w : List Nat} (h : Lg fs (c :: w)) : ∃ g ∈ fs, c ∈ ls g := by
  generalize e : c :: w = u at h
  induction h with
  | nil => cases e
  | skip h ih =>
    obtain ⟨g, hg, hc⟩ := ih e
    exact ⟨g, List.mem_cons_of_mem _ hg, hc⟩
  | opt k m h ih =>
    cases e
    exact ⟨_, List.mem_cons_self, m⟩
  | star k m h ih =>
    cases e
    exact ⟨_, List.mem_cons_self, m⟩
theorem Lg.app {fs gs : List Fc} {u v : List Nat} (h1 : Lg fs u) (h2 : Lg gs v) : Lg (fs ++ gs) (u ++ v) := by
  induction h1 with
  | nil => exact h2
  | skip h ih => exact .skip ih
  | opt k m h ih => exact .opt k m ih
  | star k m h ih => exact .star k m ih
theorem Lg.split {gs : List Fc} : ∀ {fs : List Fc} {w : List Nat}, Lg (fs ++ gs) w → ∃ u v, w = u ++ v ∧ Lg fs u ∧ Lg gs v := by
  intro fs w h
  generalize e : fs ++ gs = hs at h
  induction h generalizing fs with
  | nil =>
    obtain ⟨rfl, rfl⟩ := List.append_eq_nil_iff.mp e
    exact ⟨[], [], rfl, .nil, .nil⟩
  | @skip f hs w h ih =>
    cases fs with
    | nil =>
      have e' : gs = f :: hs := e
      exact ⟨[], w, rfl, .nil, by rw [e']; exact .skip h⟩
    | cons f' fs =>
      obtain ⟨rfl, e2⟩ := List.cons.inj e
      obtain ⟨u, v, rfl, h1, h2⟩ := ih e2
      exact ⟨u, v, rfl, .skip h1, h2⟩
  | @opt f hs c w k m h ih =>
    cases fs with
    | nil =>
      have e' : gs = f :: hs := e
      exact ⟨[], c :: w, rfl, .nil, by rw [e']; exact .opt k m h⟩
    | cons f' fs =>
      obtain ⟨rfl, e2⟩ := List.cons.inj e
      obtain ⟨u, v, rfl, h1, h2⟩ := ih e2
      exact ⟨c :: u, v, rfl, .opt k m h1, h2⟩
  | @star f hs c w k m h ih =>
    cases fs with
    | nil =>
      have e' : gs = f :: hs := e
      exact ⟨[], c :: w, rfl, .nil, by rw [e']; exact .star k m h⟩
    | cons f' fs =>
      obtain ⟨rfl, e2⟩ := List.cons.inj e
      obtain ⟨u, v, rfl, h1, h2⟩ := ih (fs := f' :: fs) e
      exact ⟨c :: u, v, rfl, .star k m h1, h2⟩
theorem Lg.one_star {f : Fc} (k : f.1 = true) : ∀ {w : List Nat}, Lg [f] w ↔ ∀ c ∈ w, c ∈ ls f := by
  intro w
  constructor
  · intro h
    generalize e : [f] = hs at h
    induction h with
    | nil => intro c hc; cases hc
    | skip h ih =>
      obtain ⟨rfl, rfl⟩ := List.cons.inj e
      cases h
      intro c hc
      cases hc
    | opt k' m h ih =>
      obtain ⟨rfl, rfl⟩ := List.cons.inj e
      rw [k] at k'
      cases k'
    | star k' m h ih =>
      intro c hc
      rcases List.mem_cons.mp hc with q | q
      · obtain ⟨rfl, rfl⟩ := List.cons.inj e
        rw [q]
        exact m
      · exact ih e c q
  · intro h
    induction w with
    | nil => exact Lg.empty _
    | cons c w ih => exact .star k (h c List.mem_cons_self) (ih fun d hd => h d (List.mem_cons_of_mem _ hd))
theorem Lg.one_opt {f : Fc} (k : f.1 = false) {w : List Nat} (h : Lg [f] w) : w = [] ∨ ∃ c ∈ ls f, w = [c] := by
  cases h with
  | skip h =>
    cases h
    exact .inl rfl
  | opt k' m h =>
    cases h
    exact .inr ⟨_, m, rfl⟩
  | star k' m h =>
    rw [k] at k'
    cases k'
/-- a word behind a factor more -/
theorem Lg.snoc {fs : List Fc} {f : Fc} {u : List Nat} : Lg (fs ++ [f]) u ↔ Lg fs u ∨ ∃ u' c, u = u' ++ [c] ∧ c ∈ ls f ∧ (if f.1 = true then Lg (fs ++ [f]) u' else Lg fs u') := by
  constructor
  · intro h
    obtain ⟨a, b, rfl, h1, h2⟩ := h.split
    by_cases k : f.1 = true
    · have q := (Lg.one_star k).mp h2
      rcases List.eq_nil_or_concat b with e | ⟨b', c, e⟩
      · left
        rw [e, List.append_nil]
        exact h1
      · right
        rw [List.concat_eq_append] at e
        refine ⟨a ++ b', c, by rw [e, List.append_assoc], q c (by rw [e]; simp), ?_⟩
        rw [if_pos k]
        exact Lg.app h1 ((Lg.one_star k).mpr fun d hd => q d (by rw [e]; simp [hd]))
    · rcases Lg.one_opt (by simpa using k) h2 with e | ⟨c, hc, e⟩
      · left
        rw [e, List.append_nil]
        exact h1
      · right
        exact ⟨a, c, by rw [e], hc, by rw [if_neg k]; exact h1⟩
  · rintro (h | ⟨u', c, rfl, hc, h⟩)
    · have := Lg.app h (Lg.empty [f])
      rw [List.append_nil] at this
      exact this
    · by_cases k : f.1 = true
      · rw [if_pos k] at h
        obtain ⟨a, b, rfl, h1, h2⟩ := h.split
        rw [List.append_assoc]
        refine Lg.app h1 ((Lg.one_star k).mpr fun d hd => ?_)
        rcases List.mem_append.mp hd with q | q
        · exact (Lg.one_star k).mp h2 d q
        · rw [List.mem_singleton.mp q]
          exact hc
      · rw [if_neg k] at h
        exact Lg.app h (.opt (by simpa using k) hc .nil)
theorem Lg.unf (m : Nat) : ∀ fs : List Fc, (∀ f ∈ fs, f.1 = false → (ls f).length = 1) → Lg fs (DW.unf fs m)
  | [], _ => .nil
  | f :: fs, h => by
    have ih := Lg.unf m fs fun g hg => h g (List.mem_cons_of_mem _ hg)
    have e : DW.unf (f :: fs) m = piece m f ++ DW.unf fs m := rfl
    rw [e]
    refine Lg.app (fs := [f]) ?_ ih
    unfold piece
    by_cases k : f.1 = true
    · rw [if_pos k]
      refine (Lg.one_star k).mpr fun c hc => ?_
      obtain ⟨l, hl, hc⟩ := List.mem_flatten.mp hc
      rw [List.eq_of_mem_replicate hl] at hc
      exact hc
    · rw [if_neg k]
      have k' : f.1 = false := by simpa using k
      have l1 := h f List.mem_cons_self k'
      obtain ⟨c, e⟩ := List.length_eq_one_iff.mp l1
      have e' : tl f.2 = [c] := e
      rw [e']
      exact .opt k' (by show c ∈ tl f.2; rw [e']; simp) .nil
/-! ### inclusion, factor by factor -/
def sw (g f : Fc) : Bool := g.1 && (ls f).all fun c => decide (c ∈ ls g)
def cov (g f : Fc) : Bool := decide (g = f) || sw g f
def inc : List Fc → List Fc → Bool
  | _, [] => true
  | [], _ :: _ => false
  | g :: q, f :: p => if cov g f = true then (if g.1 = true then inc (g :: q) p else inc q p) else inc q (f :: p)
termination_by q p => q.length + p.length
def W1 (fs : List Fc) : Prop := ∀ f ∈ fs, ls f ≠ [] ∧ (f.1 = false → (ls f).length = 1)
theorem cov_sub {g f : Fc} (h : cov g f = true) (k : g.1 = true) : ∀ c ∈ ls f, c ∈ ls g := by
  intro c hc
  unfold cov at h
  rw [Bool.or_eq_true] at h
  rcases h with e | e
  · rw [of_decide_eq_true e]
    exact hc
  · unfold sw at e
    rw [Bool.and_eq_true, List.all_eq_true] at e
    exact of_decide_eq_true (e.2 c hc)
theorem cov_opt {g f : Fc} (h : cov g f = true) (k : g.1 = false) : g = f := by
  unfold cov at h
  rw [Bool.or_eq_true] at h
  rcases h with e | e
  · exact of_decide_eq_true e
  · unfold sw at e
    rw [k] at e
    cases e
theorem inc_sound : ∀ (q p : List Fc), inc q p = true → ∀ w, Lg p w → Lg q w
  | q, [], _, w, h => by
    cases h
    exact Lg.empty q
  | [], f :: p, h, w, _ => by
    unfold inc at h
    cases h
  | g :: q, f :: p, h, w, hw => by
    unfold inc at h
    by_cases c : cov g f = true
    · rw [if_pos c] at h
      by_cases k : g.1 = true
      · rw [if_pos k] at h
        have ih := inc_sound (g :: q) p h
        have sub := cov_sub c k
        generalize e : f :: p = fp at hw
        induction hw with
        | nil => cases e
        | skip h1 _ =>
          cases e
          exact ih _ h1
        | opt _ m h1 _ =>
          cases e
          exact .star k (sub _ m) (ih _ h1)
        | star _ m h1 ih1 =>
          cases e
          exact .star k (sub _ m) (ih1 rfl)
      · rw [if_neg k] at h
        have k' : g.1 = false := by simpa using k
        have ih := inc_sound q p h
        have e := cov_opt c k'
        subst e
        cases hw with
        | skip h1 => exact .skip (ih _ h1)
        | opt k2 m h1 => exact .opt k2 m (ih _ h1)
        | star k2 m h1 =>
          rw [k'] at k2
          cases k2
    · rw [if_neg c] at h
      exact .skip (inc_sound q (f :: p) h w hw)
termination_by q p => q.length + p.length
/-! ### a word that repeats letters in turn -/
def Per (L : List Nat) (o : Nat) (v : List Nat) : Prop := ∀ k : Nat, k < v.length → v[k]? = L[(o + k) % L.length]?
theorem Per.tail {L u v : List Nat} {o : Nat} (h : Per L o (u ++ v)) : Per L (o + u.length) v := fun k hk => by
  have q := h (u.length + k) (by rw [List.length_append]; omega)
  rw [List.getElem?_append_right (by omega), show u.length + k - u.length = k by omega] at q
  rw [q, Nat.add_assoc]
theorem Per.head {L u v : List Nat} {o : Nat} (h : Per L o (u ++ v)) : Per L o u := fun k hk => by
  have q := h k (by rw [List.length_append]; omega)
  rw [List.getElem?_append_left hk] at q
  exact q
theorem Per.all {L v : List Nat} {o : Nat} (h0 : L ≠ []) (h : Per L o v) (hl : L.length ≤ v.length) : ∀ c ∈ L, c ∈ v := by
  intro c hc
  obtain ⟨i, hi, e⟩ := List.mem_iff_getElem.mp hc
  have lp : 0 < L.length := List.length_pos_iff.mpr h0
  have om := Nat.mod_lt o lp
  -- k with (o + k) % |L| = i
  have : ∃ k, k < L.length ∧ (o + k) % L.length = i := by
    by_cases c : o % L.length ≤ i
    · refine ⟨i - o % L.length, by omega, ?_⟩
      rw [Nat.add_mod, Nat.mod_eq_of_lt (show i - o % L.length < L.length by omega)]
      rw [show o % L.length + (i - o % L.length) = i by omega, Nat.mod_eq_of_lt hi]
    · refine ⟨i + L.length - o % L.length, by omega, ?_⟩
      rw [Nat.add_mod, Nat.mod_eq_of_lt (show i + L.length - o % L.length < L.length by omega)]
      rw [show o % L.length + (i + L.length - o % L.length) = i + L.length by omega, Nat.add_mod_right, Nat.mod_eq_of_lt hi]
  obtain ⟨k, hk, ek⟩ := this
  have q := h k (by omega)
  rw [ek, List.getElem?_eq_getElem hi, e] at q
  exact List.mem_of_getElem? q
theorem Per.bound {f : Fc} (h0 : ls f ≠ []) : ∀ (q : List Fc), (∀ g ∈ q, cov g f = false) → ∀ (v : List Nat) (o : Nat), Per (ls f) o v → Lg q v → v.length ≤ q.length * (ls f).length
  | [], _, v, o, _, h => by
    cases h
    exact Nat.zero_le _
  | g :: q, hq, v, o, hp, h => by
    obtain ⟨a, b, rfl, h1, h2⟩ := Lg.split (fs := [g]) h
    have ih := Per.bound h0 q (fun g hg => hq g (List.mem_cons_of_mem _ hg)) b _ hp.tail h2
    have al : a.length ≤ (ls f).length := by
      have lp : 0 < (ls f).length := List.length_pos_iff.mpr h0
      by_cases k : g.1 = true
      · have sub := (Lg.one_star k).mp h1
        by_cases c : (ls f).length ≤ a.length
        · have al := hp.head.all h0 c
          have cv : cov g f = true := by
            unfold cov sw
            rw [Bool.or_eq_true]
            right
            rw [k, Bool.true_and, List.all_eq_true]
            exact fun c hc => decide_eq_true (sub c (al c hc))
          rw [hq g List.mem_cons_self] at cv
          cases cv
        · omega
      · rcases Lg.one_opt (by simpa using k) h1 with e | ⟨c, _, e⟩
        · rw [e]
          exact Nat.zero_le _
        · rw [e]
          exact lp
    rw [List.length_append, List.length_cons, Nat.succ_mul]
    omega
theorem per_rep (L : List Nat) (m : Nat) : Per L 0 (List.replicate m L).flatten := by
  induction m with
  | zero =>
    intro k hk
    exact absurd hk (Nat.not_lt_zero _)
  | succ m ih =>
    intro k hk
    rw [List.replicate_succ, List.flatten_cons]
    by_cases c : k < L.length
    · rw [List.getElem?_append_left c, Nat.zero_add, Nat.mod_eq_of_lt c]
    · rw [List.getElem?_append_right (by omega)]
      have q := ih (k - L.length) (by
        rw [List.replicate_succ, List.flatten_cons, List.length_append] at hk
        omega)
      rw [q, Nat.zero_add, Nat.zero_add]
      congr 1
      rw [← Nat.mod_eq_sub_mod (by omega)]
theorem rep_len (L : List Nat) (m : Nat) : (List.replicate m L).flatten.length = m * L.length := by
  rw [List.length_flatten, List.map_replicate, List.sum_replicate_nat]
/-- skipping factors that do not cover -/
theorem inc_skip {f : Fc} {p : List Fc} : ∀ {a b : List Fc}, (∀ g ∈ a, cov g f = false) → inc (a ++ b) (f :: p) = inc b (f :: p)
  | [], _, _ => rfl
  | g :: a, b, h => by
    rw [List.cons_append]
    rw [show inc (g :: (a ++ b)) (f :: p) = inc (a ++ b) (f :: p) by
      conv => lhs; unfold inc
      rw [if_neg (by rw [h g List.mem_cons_self]; simp)]]
    exact inc_skip fun g hg => h g (List.mem_cons_of_mem _ hg)
theorem first_cov (f : Fc) : ∀ q : List Fc, (∀ g ∈ q, cov g f = false) ∨ ∃ a g b, q = a ++ g :: b ∧ (∀ h ∈ a, cov h f = false) ∧ cov g f = true
  | [] => .inl fun g hg => (nomatch hg)
  | g :: q => by
    by_cases c : cov g f = true
    · exact .inr ⟨[], g, q, rfl, fun h hh => (nomatch hh), c⟩
    · have c' : cov g f = false := by simpa using c
      rcases first_cov f q with h | ⟨a, g', b, rfl, h1, h2⟩
      · left
        intro h' hh
        rcases List.mem_cons.mp hh with e | e
        · rw [e]; exact c'
        · exact h h' e
      · right
        refine ⟨g :: a, g', b, rfl, fun h hh => ?_, h2⟩
        rcases List.mem_cons.mp hh with e | e
        · rw [e]; exact c'
        · exact h1 h e
theorem inc_complete (m : Nat) : ∀ (p q : List Fc), W1 p → W1 q → q.length < m → Lg q (DW.unf p m) → inc q p = true
  | [], q, _, _, _, _ => by
    cases q <;> (unfold inc; rfl)
  | f :: p, q, wp, wq, hm, h => by
    have wp' : W1 p := fun g hg => wp g (List.mem_cons_of_mem _ hg)
    obtain ⟨n0, n1⟩ := wp f List.mem_cons_self
    have e : DW.unf (f :: p) m = piece m f ++ DW.unf p m := rfl
    rw [e] at h
    have lp : 0 < (ls f).length := List.length_pos_iff.mpr n0
    -- the factors that do not cover take at most |q| copies
    have key : ∀ a b, q = a ++ b → (∀ g ∈ a, cov g f = false) → ∃ v, v ≠ [] ∧ (∀ c ∈ v, c ∈ ls f) ∧ Lg b (v ++ DW.unf p m) := by
      intro a b eq ha
      rw [eq] at h
      obtain ⟨u, v, euv, h1, h2⟩ := h.split
      have la : a.length ≤ q.length := by rw [eq, List.length_append]; omega
      by_cases k : f.1 = true
      · have ep : piece m f = (List.replicate m (ls f)).flatten := by unfold piece; rw [if_pos k]
        rw [ep] at euv
        have pr := per_rep (ls f) m
        have lu : u.length < (List.replicate m (ls f)).flatten.length := by
          rw [rep_len]
          apply Decidable.byContradiction
          intro hc
          -- then all copies lie within u
          have hu : ∃ t, u = (List.replicate m (ls f)).flatten ++ t := by
            have q1 : (List.replicate m (ls f)).flatten <+: u ++ v := ⟨_, euv⟩
            have q2 : u <+: u ++ v := List.prefix_append _ _
            have q3 := List.prefix_of_prefix_length_le q1 q2 (by rw [rep_len]; omega)
            obtain ⟨t, et⟩ := q3
            exact ⟨t, et.symm⟩
          obtain ⟨t, rfl⟩ := hu
          have h3 : Lg a (List.replicate m (ls f)).flatten := by
            exact Lg.init h1
          have bd := Per.bound n0 a ha _ 0 pr h3
          rw [rep_len] at bd
          have : a.length * (ls f).length < m * (ls f).length := Nat.mul_lt_mul_of_pos_right (by omega) lp
          omega
        obtain ⟨t, et⟩ : ∃ t, (List.replicate m (ls f)).flatten = u ++ t := by
          have q1 : (List.replicate m (ls f)).flatten <+: u ++ v := ⟨_, euv⟩
          have q2 : u <+: u ++ v := List.prefix_append _ _
          obtain ⟨t, et⟩ := List.prefix_of_prefix_length_le q2 q1 (by omega)
          exact ⟨t, et.symm⟩
        have ev : v = t ++ DW.unf p m := by
          rw [et, List.append_assoc] at euv
          exact (List.append_cancel_left euv).symm
        refine ⟨t, fun z => ?_, fun c hc => ?_, by rw [← ev]; exact h2⟩
        · rw [z, List.append_nil] at et
          rw [et] at lu
          omega
        · have : c ∈ (List.replicate m (ls f)).flatten := by rw [et]; exact List.mem_append_right _ hc
          obtain ⟨l, hl, hc⟩ := List.mem_flatten.mp this
          rw [List.eq_of_mem_replicate hl] at hc
          exact hc
      · have k' : f.1 = false := by simpa using k
        obtain ⟨c, ec⟩ := List.length_eq_one_iff.mp (n1 k')
        have ec' : tl f.2 = [c] := ec
        have ep : piece m f = [c] := by unfold piece; rw [if_neg k, ec']
        rw [ep] at euv
        cases u with
        | nil => exact ⟨[c], by simp, fun d hd => by rw [List.mem_singleton.mp hd]; show c ∈ tl f.2; rw [ec']; simp, by rw [euv]; exact h2⟩
        | cons d u =>
          -- a takes the letter: one of its factors covers f
          exfalso
          have ed : c = d := (List.cons.inj euv).1
          subst ed
          obtain ⟨g, hg, hc⟩ := Lg.has h1
          have hq : g ∈ q := by rw [eq]; exact List.mem_append_left _ hg
          have cv : cov g f = true := by
            unfold cov
            rw [Bool.or_eq_true]
            by_cases kg : g.1 = true
            · right
              unfold sw
              rw [kg, Bool.true_and, List.all_eq_true]
              intro d hd
              have : d ∈ [c] := by rw [← ec']; exact hd
              rw [List.mem_singleton.mp this]
              exact decide_eq_true hc
            · left
              have kg' : g.1 = false := by simpa using kg
              obtain ⟨d, ed⟩ := List.length_eq_one_iff.mp ((wq g hq).2 kg')
              have hc' : c ∈ ls g := hc
              rw [ed] at hc'
              have e2 : tl g.2 = tl f.2 := by
                rw [ec']
                show ls g = [c]
                rw [ed, List.mem_singleton.mp hc']
              obtain ⟨g1, g2⟩ := g
              obtain ⟨f1, f2⟩ := f
              have e3 : g2 = f2 := tl_inj e2
              have e4 : g1 = f1 := kg'.trans k'.symm
              exact decide_eq_true (by rw [e3, e4])
          rw [ha g hg] at cv
          cases cv
    rcases first_cov f q with hn | ⟨a, g, b, eq, ha, hg⟩
    · obtain ⟨v, v0, _, hv⟩ := key q [] (by simp) hn
      cases v with
      | nil => exact absurd rfl v0
      | cons c v => cases hv
    · obtain ⟨v, v0, vs, hv⟩ := key a (g :: b) eq ha
      have ei : inc q (f :: p) = inc (g :: b) (f :: p) := by rw [eq]; exact inc_skip ha
      have lb : (g :: b).length ≤ q.length := by rw [eq, List.length_append]; omega
      rw [ei]
      have wb : W1 (g :: b) := fun x hx => wq x (by rw [eq]; exact List.mem_append_right _ hx)
      by_cases k : g.1 = true
      · have ih := inc_complete m p (g :: b) wp' wb (by omega) hv.drop
        unfold inc
        rw [if_pos hg, if_pos k]
        exact ih
      · have k' : g.1 = false := by simpa using k
        have eg := cov_opt hg k'
        have hb : Lg b (DW.unf p m) := by
          cases v with
          | nil => exact absurd rfl v0
          | cons c v =>
            cases hv with
            | skip h => exact Lg.drop (u := c :: v) h
            | opt _ _ h => exact Lg.drop h
            | star k2 _ _ =>
              rw [k'] at k2
              cases k2
        have ih := inc_complete m p b wp' (fun x hx => wb x (List.mem_cons_of_mem _ hx)) (by rw [List.length_cons] at lb; omega) hb
        unfold inc
        rw [if_pos hg, if_neg k]
        exact ih
end DW
namespace DW
open PySem PySem.Spec PyProof.Rows L2 TL
set_option autoImplicit false
theorem kd_star (b : Bool) : decide (V.str (kd b) = V.str "star") = b := by
  cases b
  · exact decide_eq_false (by unfold kd; decide +kernel)
  · exact decide_eq_true rfl
theorem kd_inj {a b : Bool} (h : kd a = kd b) : a = b := by
  cases a <;> cases b <;> first | rfl | (exfalso; revert h; unfold kd; decide +kernel)
def fD (f : Fc) : PyData := .tuple [.str (kd f.1), .str f.2]
theorem IsF.dp {K : PySem.W.Frag} {H : Hp} {v : V} {f : Fc} (h : IsF K H v f) : Dp K H v (fD f) := by
  obtain ⟨a, rfl, q⟩ := h
  exact .tup q (.cons (.str _) (.cons (.str _) .nil))
def Low (f : Fc) : Prop := (∀ c ∈ ls f, c < 128) ∧ (ls f).length ≤ 1000
theorem strOk_low {x : Str} (h : ∀ c ∈ tl x, c < 128) (hl : (tl x).length ≤ 1000) : PyData.strOk x = true := by
  unfold PyData.strOk
  rw [← Array.all_toList, List.all_eq_true]
  exact fun c hc => decide_eq_true (by have := h c hc; omega)
theorem kd_ok (b : Bool) : PyData.strOk (kd b) = true := by
  cases b <;> (unfold kd; decide +kernel)
theorem fD_shaped {f : Fc} (h : Low f) : SeqAt.shaped (fD f) = true := by
  unfold SeqAt.shaped fD
  rw [Bool.and_eq_true]
  refine ⟨?_, decide_eq_true (by simp [PyData.depth, PyData.depthAll])⟩
  simp only [PyData.canLay0, PyData.canLayAll0, kd_ok, strOk_low h.1 h.2, Bool.and_self]
theorem fD_eqv (f g : Fc) : PyData.eqv (fD f) (fD g) = decide (f = g) := by
  unfold fD
  simp only [PyData.eqv, PyData.eqvAll, Bool.and_true]
  rw [Bool.eq_iff_iff, Bool.and_eq_true, decide_eq_true_eq, beq_iff_eq, beq_iff_eq]
  constructor
  · rintro ⟨e1, e2⟩
    obtain ⟨a, b⟩ := f
    obtain ⟨c, d⟩ := g
    have := kd_inj e1
    simp only at this e2
    rw [this, e2]
  · rintro rfl
    exact ⟨rfl, rfl⟩
def spSw (K : PySem.W.Frag) : Sp := fun vs H Q _ => ∃ (x y : V) (g f : Fc), vs = [x, y] ∧ IsF K H x g ∧ IsF K H y f ∧ (ls f).length ≤ 1000 ∧ ∀ H', Same H H' → Q (.bl (sw g f)) H'
def spCov (K : PySem.W.Frag) : Sp := fun vs H Q _ => ∃ (x y : V) (g f : Fc), vs = [x, y] ∧ IsF K H x g ∧ IsF K H y f ∧ Low g ∧ Low f ∧ ∀ H', Same H H' → Q (.bl (cov g f)) H'
def spIncl (K : PySem.W.Frag) : Sp := fun vs H Q _ => ∃ (x y : V) (p q : List Fc), vs = [x, y] ∧ IsP K H x p ∧ IsP K H y q ∧ (∀ f ∈ p, Low f) ∧ (∀ g ∈ q, Low g) ∧ ∀ H', Same H H' → Q (.bl (inc q p)) H'
def rst : List Fc → List Fc → Option (List Fc)
  | q, [] => some q
  | [], _ :: _ => none
  | g :: q, f :: p => if cov g f = true then (if g.1 = true then rst (g :: q) p else rst q p) else rst q (f :: p)
termination_by q p => (q.length + p.length)
theorem rst_none (f : Fc) (p : List Fc) : rst [] (f :: p) = none := by unfold rst; rfl
theorem rst_cons (g f : Fc) (q p : List Fc) : rst (g :: q) (f :: p) = if cov g f = true then (if g.1 = true then rst (g :: q) p else rst q p) else rst q (f :: p) := by conv => lhs; unfold rst
theorem rst_nil (q : List Fc) : rst q [] = some q := by cases q <;> (unfold rst; rfl)
theorem inc_none (f : Fc) (p : List Fc) : inc [] (f :: p) = false := by unfold inc; rfl
theorem inc_cons (g f : Fc) (q p : List Fc) : inc (g :: q) (f :: p) = if cov g f = true then (if g.1 = true then inc (g :: q) p else inc q p) else inc q (f :: p) := by conv => lhs; unfold inc
theorem inc_nil (q : List Fc) : inc q [] = true := by cases q <;> (unfold inc; rfl)
theorem rst_inc : ∀ (q p : List Fc), (rst q p).isSome = inc q p
  | q, [] => by rw [rst_nil, inc_nil]; rfl
  | [], f :: p => by rw [rst_none, inc_none]; rfl
  | g :: q, f :: p => by
    rw [rst_cons, inc_cons]
    by_cases c : cov g f = true
    · rw [if_pos c, if_pos c]
      by_cases s : g.1 = true
      · rw [if_pos s, if_pos s]
        exact rst_inc (g :: q) p
      · rw [if_neg s, if_neg s]
        exact rst_inc q p
    · rw [if_neg c, if_neg c]
      exact rst_inc q (f :: p)
termination_by q p => (q.length + p.length)
/-- the place that is told: how many factors are left behind -/
def plV (n : Nat) : Option (List Fc) → V
  | none => .non
  | some r => .int ((n - r.length : Nat) : Int)
def spBehind (K : PySem.W.Frag) : Sp := fun vs H Q _ => ∃ (x : V) (q : List Fc) (i : Nat) (g : Fc), vs = [x, .int (i : Int)] ∧ IsP K H x q ∧ q[i]? = some g ∧ ∀ H', Same H H' → Q (.int ((if g.1 = true then i else i + 1 : Nat) : Int)) H'
def spPlc (K : PySem.W.Frag) : Sp := fun vs H Q _ => ∃ (x y : V) (p q : List Fc) (s : Nat), vs = [x, y, .int (s : Int)] ∧ IsP K H x p ∧ IsP K H y q ∧ s ≤ q.length ∧ (∀ f ∈ p, Low f) ∧ (∀ g ∈ q, Low g) ∧ ∀ H', Same H H' → Q (plV q.length (rst (q.drop s) p)) H'
section
variable {P : Program} {w : World} {K : PySem.W.Frag} {mg : Str → Option Value} {base : Heap}
theorem scSw : FnScope ["factor", "other", "letter"] ["factor", "other"] (defScope sSwallows) := ⟨rfl, rfl, rfl, by decide +kernel, rfl, by decide +kernel, by decide +kernel⟩
theorem ok_sw (D : Df K mg "swallows" sSwallows ["factor", "other"]) (ma : mg "all" = none) : FnOk P w K mg base CX0 1 D.f D.fd ["factor", "other"] (spSw K) := by
  refine D.F.ok scSw (fun vs H Q E h => ?_) (fun cdv A outer s H vs Q E hr h => ?_)
  · obtain ⟨x, y, g, f, rfl, _⟩ := h
    rfl
  · obtain ⟨x, y, g, f, rfl, ⟨a, rfl, ha⟩, ⟨b, rfl, hb⟩, fl, k⟩ := h
    refine ⟨_, pss_one (ps_ret (pe_and (pe_cmpR op_eq (pe_ix ix_tup (pv 0) pe_int (fun _ _ => rfl)) pe_str (nomark _)) (pe_one (pe_callB (cr_all rfl) (by rfl) ma (by decide +kernel) (pa_cons
      (pe_lc (own := [("letter", 2)]) (g := gName 2) rfl scSw.nd (pi_str (pe_ix ix_tup (pv 1) pe_int (fun _ _ => rfl))) (blkOk_by (N := ["factor", "other", "letter"]) (sc := defScope sSwallows) (by decide +kernel)) (fun _ _ _ _ _ => pg_name (i := 2) scSw.nd rfl (Or.inl rfl)) (fun _ _ _ _ _ => pts_nil)
        (fun _ _ _ _ _ => pe_cmpR op_in_sign (pv 2) (pe_ix (r := rIxT K) (by exact ix_tup) (pv 0) pe_int (fun _ _ => rfl)) rfl)) pa_nil))))), ?_⟩
    refine ⟨.ref a, rfl, a, _, 0, .str (kd g.1), rfl, rfl, ha, atI_nat (j := 0) rfl, rfl, _, rfl, ?_⟩
    rw [kd_star]
    refine ite2 (fun e => ?_) (fun e => ?_)
    · refine ⟨.ref b, rfl, b, _, 1, .str f.2, rfl, rfl, hb, atI_nat (j := 1) rfl, f.2, rfl, fun D hD => ?_⟩
      have zs : f.2.cps.size = (ls f).length := (Array.length_toList).symm
      refine lc_it walk_str (fun i H' => ∃ bs : List Bool, H' D = some (.lst (bs.map V.bl)) ∧ bs = ((ls f).take i).map (fun c => decide (c ∈ ls g)) ∧ Same H H') ?_ (fun _ _ _ _ => trivial) ?_ ?_
      · exact ⟨[], upd_same, rfl, same_upd hD⟩
      · rintro i x G G' hi ⟨bs, gD, be, sm⟩ ⟨rfl, d, hd, rfl⟩
        have hd' : (tl f.2)[i]? = some d := by rw [Array.getElem?_toList]; exact hd
        refine ⟨rfl, yes ?_⟩
        refine ⟨_, rfl, .ref a, rfl, a, _, 1, .str g.2, rfl, rfl, same_tup sm _ _ ha, atI_nat (j := 1) rfl, d, g.2, rfl, rfl, _, gD, ?_, bs ++ [decide (d ∈ tl g.2)], ?_, ?_, fun b u e => ?_⟩
        · rw [List.length_map, be, List.length_map, List.length_take, sizeLine_eq]
          omega
        · rw [upd_same, List.map_append]
          rfl
        · rw [be, List.take_add_one, hd', List.map_append]
          rfl
        · exact (upd_ne (ne_of_none e hD)).trans (sm _ _ e)
      · rintro G ⟨bs, gD, be, sm⟩
        refine ⟨D, bs, rfl, SqL.of gD, ?_⟩
        have e2 : bs.all id = sw g f := by
          rw [be, zs, List.take_length]
          unfold sw
          rw [e, Bool.true_and, List.all_map]
          rfl
        rw [e2]
        exact k _ sm
    · have e' : g.1 = false := by simpa using e
      have e2 : sw g f = false := by
        unfold sw
        rw [e']
        rfl
      rw [← e2]
      exact k _ (Same.refl _)
theorem scCov : FnScope ["factor", "other"] ["factor", "other"] (defScope sCovers) := ⟨rfl, rfl, rfl, by decide +kernel, rfl, by decide +kernel, by decide +kernel⟩
theorem ok_cov (D : Df K mg "covers" sCovers ["factor", "other"]) (Ds0 : Df K mg "swallows" sSwallows ["factor", "other"]) (ma : mg "all" = none) : FnOk P w K mg base CX0 2 D.f D.fd ["factor", "other"] (spCov K) := by
  have Gs : FnOk P w K mg base CX0 1 Ds0.f Ds0.fd ["factor", "other"] (spSw K) := ok_sw Ds0 ma
  refine D.F.ok scCov (fun vs H Q E h => ?_) (fun cdv A outer s H vs Q E hr h => ?_)
  · obtain ⟨x, y, g, f, rfl, _⟩ := h
    rfl
  · obtain ⟨x, y, g, f, rfl, hg, hf, lg, lf, k⟩ := h
    refine ⟨_, pss_one (ps_ret (pe_or (pe_cmpR (op_eqD hr.units) (pv 0) (pv 1) (nomark _)) (pe_one (pe_call Gs hr (by rfl) Ds0.g Ds0.F.kp Ds0.b .nil pass0 (pa_cons (pv 0) (pa_cons (pv 1) pa_nil)))))), ?_⟩
    refine ⟨x, rfl, y, rfl, fD g, fD f, hg.dp, hf.dp, fD_shaped lg, fD_shaped lf, _, rfl, ?_⟩
    rw [fD_eqv]
    refine ite2 (fun e => ?_) (fun e => ?_)
    · have e2 : cov g f = true := by
        unfold cov
        rw [e]
        rfl
      rw [← e2]
      exact k _ (Same.refl _)
    · refine ⟨x, rfl, y, rfl, x, y, g, f, rfl, hg, hf, lf.2, fun H' sm => ?_⟩
      have e2 : cov g f = sw g f := by
        unfold cov
        rw [show decide (g = f) = false by simpa using e]
        rfl
      rw [← e2]
      exact k _ sm
theorem drop_at {α : Type} {l : List α} {i : Nat} {x : α} (h : l[i]? = some x) : l.drop i = x :: l.drop (i + 1) := by
  obtain ⟨hi, e⟩ := List.getElem?_eq_some_iff.mp h
  rw [← e]
  exact List.drop_eq_getElem_cons hi
theorem IsFs.at {K : PySem.W.Frag} {H : Hp} : ∀ {vs : List V} {fs : List Fc}, IsFs K H vs fs → ∀ (i : Nat), i < fs.length → ∃ v f, vs[i]? = some v ∧ fs[i]? = some f ∧ IsF K H v f := by
  intro vs fs h i hi
  have hv : i < vs.length := by rw [h.len]; exact hi
  obtain ⟨f, e, q⟩ := h.get i vs[i] (List.getElem?_eq_getElem hv)
  exact ⟨_, f, List.getElem?_eq_getElem hv, e, q⟩
theorem scBeh : FnScope ["product", "place"] ["product", "place"] (defScope sBehind) := ⟨rfl, rfl, rfl, by decide +kernel, rfl, by decide +kernel, by decide +kernel⟩
theorem ok_beh (D : Df K mg "behind" sBehind ["product", "place"]) : FnOk P w K mg base CX0 1 D.f D.fd ["product", "place"] (spBehind K) := by
  refine D.F.ok scBeh (fun vs H Q E h => ?_) (fun cdv A outer s H vs Q E hr h => ?_)
  · obtain ⟨x, q, i, g, rfl, _⟩ := h
    rfl
  · obtain ⟨x, q, i, g, rfl, ⟨b, ys, rfl, hb, iQ⟩, hg, k⟩ := h
    refine ⟨_, pss_cons (ps_if (pt_cmpR op_eq (pe_ix ix_tup (pe_ix ix_tup (pv 0) (pv 1) (fun _ _ => rfl)) pe_int (fun _ _ => rfl)) pe_str (nomark _)) (pss_one (ps_ret (pv 1))) pss_nil)
      (pss_one (ps_ret (pe_op op_add (pv 1) pe_int))), ?_⟩
    obtain ⟨v, g', hv, hg', c, rfl, hc⟩ := iQ.at i (List.getElem?_eq_some_iff.mp hg).1
    rw [hg] at hg'
    cases hg'
    refine ⟨.ref b, rfl, .int (i : Int), rfl, b, ys, (i : Int), .ref c, rfl, rfl, hb, atI_nat hv, c, _, 0, .str (kd g.1), rfl, rfl, hc, atI_nat (j := 0) rfl, rfl, _, rfl, ?_⟩
    rw [kd_star]
    refine ite2 (fun e2 => ?_) (fun e2 => ?_)
    · have kg : g.1 = true := by simpa using e2
      rw [if_pos kg] at k
      exact ⟨_, rfl, k _ (Same.refl _)⟩
    · have kg : g.1 = false := by simpa using e2
      rw [if_neg (by rw [kg]; simp)] at k
      exact ⟨_, rfl, _, _, rfl, rfl, k _ (Same.refl _)⟩
theorem scPlc : FnScope ["product", "other", "start", "place", "factor"] ["product", "other", "start"] (defScope sPlaceBehind) := ⟨rfl, rfl, rfl, by decide +kernel, rfl, by decide +kernel, by decide +kernel⟩
theorem ok_plc (D : Df K mg "place_behind" sPlaceBehind ["product", "other", "start"]) (Db : Df K mg "behind" sBehind ["product", "place"]) (Dc : Df K mg "covers" sCovers ["factor", "other"]) (Ds0 : Df K mg "swallows" sSwallows ["factor", "other"]) (ma : mg "all" = none) (ml : mg "len" = none) :
    FnOk P w K mg base CX0 3 D.f D.fd ["product", "other", "start"] (spPlc K) := by
  have Gc : FnOk P w K mg base CX0 2 Dc.f Dc.fd ["factor", "other"] (spCov K) := ok_cov Dc Ds0 ma
  have Gb : FnOk P w K mg base CX0 1 Db.f Db.fd ["product", "place"] (spBehind K) := ok_beh Db
  refine D.F.ok scPlc (fun vs H Q E h => ?_) (fun cdv A outer s H vs Q E hr h => ?_)
  · obtain ⟨x, y, p, q, s, rfl, _⟩ := h
    rfl
  · obtain ⟨x, y, p, q, st, rfl, ⟨a, xs, rfl, ha, iP⟩, ⟨b, ys, rfl, hb, iQ⟩, hst, pl3, ql3, k⟩ := h
    have hq : IsP K H (.ref b) q := ⟨b, ys, rfl, hb, iQ⟩
    refine ⟨_, PSs.nox (pss_cons (ps_set (i := 3) scPlc.nd rfl (.inl rfl) (pv 2))
      (pss_cons (ps_for PassesOwn.never rfl (pi_tup (pv 0)) (pg_name (i := 4) scPlc.nd rfl (.inl rfl))
        (C8.pss_cut (ps_while PassesOwn.never (pw_and (pt_cmpR op_lt (pv 3) (pe_callB call_len_seq (by rfl) ml PySem.boot_len (pa_cons (pv 1) pa_nil)) (nomark _))
            (pw_and1 (pt_not (pt_val (pe_call Gc hr (by rfl) Dc.g Dc.F.kp Dc.b .nil pass0 (pa_cons (pe_ix ix_tup (pv 1) (pv 3) (fun _ _ => rfl)) (pa_cons (pv 4) pa_nil))))))).pt
          (pss_one (ps_aug (i := 3) scPlc.nd rfl (.inl rfl) pe_int ip_add)))
        (pss_cons (ps_if (pt_cmpR op_eq (pv 3) (pe_callB call_len_seq (by rfl) ml PySem.boot_len (pa_cons (pv 1) pa_nil)) (nomark _)) (pss_one (ps_ret pe_non)) pss_nil)
        (pss_one (ps_set (i := 3) scPlc.nd rfl (.inl rfl) (pe_call Gb (hr.mono (by decide)) (by rfl) Db.g Db.F.kp Db.b .nil pass0 (pa_cons (pv 1) (pa_cons (pv 3) pa_nil))))))))
      (pss_one (ps_ret (pv 3))))), ?_⟩
    have yl : ys.length = q.length := iQ.len
    refine ⟨_, rfl, .ref a, rfl, a, rfl, ⟨xs, ha⟩, for_it (walk_tup (xs := xs)) (fun i σ H' => ∃ (pl : Nat) (y3 : Option V), σ = [some (.ref a), some (.ref b), some (.int (st : Int)), some (.int pl), y3] ∧ Same H H' ∧ pl ≤ q.length ∧ rst (q.drop pl) (p.drop i) = rst (q.drop st) p)
      ⟨st, _, rfl, Same.refl _, hst, rfl⟩ (fun _ _ H' _ ⟨_, _, _, sm, _⟩ => same_tup sm _ _ ha) ?_ ?_⟩
    · rintro i x σ G G' hi ⟨pl, y3, rfl, sm, hpl, ei⟩ ⟨rfl, hx⟩
      obtain ⟨f, hf, isf⟩ := iP.get i x hx
      have fm : f ∈ p := List.mem_of_getElem? hf
      rw [drop_at hf] at ei
      refine ⟨fun σ' H' => ∃ pl : Nat, σ' = [some (.ref a), some (.ref b), some (.int (st : Int)), some (.int pl), some x] ∧ Same H H' ∧ pl ≤ q.length ∧ rst (q.drop pl) (f :: p.drop (i + 1)) = rst (q.drop st) p ∧ ∀ g, q[pl]? = some g → cov g f = true, ?_, ?_⟩
      · refine ⟨fun m σ' H' => ∃ pl : Nat, σ' = [some (.ref a), some (.ref b), some (.int (st : Int)), some (.int pl), some x] ∧ Same H H' ∧ pl ≤ q.length ∧ rst (q.drop pl) (f :: p.drop (i + 1)) = rst (q.drop st) p ∧ m = q.length - pl, ⟨_, pl, rfl, sm, hpl, ei, rfl⟩, ?_⟩
        rintro m σ' H' ⟨pl, rfl, sm, hpl, ei, rfl⟩
        refine ⟨.int pl, rfl, .ref b, rfl, b, ys, rfl, .inr (same_tup sm _ _ hb), _, _, rfl, rfl, _, rfl, ite2 (fun e => ?_) (fun e => ?_)⟩
        · have lt : pl < q.length := by
            have := of_decide_eq_true e
            omega
          obtain ⟨v, g, hv, hg, isg⟩ := iQ.at pl lt
          refine ⟨.ref b, rfl, .int pl, rfl, b, ys, (pl : Int), v, rfl, rfl, same_tup sm _ _ hb, atI_nat hv, x, rfl, v, x, g, f, rfl, isg.mono (same_tup sm), isf.mono (same_tup sm), ql3 g (List.mem_of_getElem? hg), pl3 f fm, fun H2 s2 => ?_⟩
          refine ⟨_, rfl, ?_⟩
          have eg := drop_at hg
          refine ite2 (fun e2 => ?_) (fun e2 => ?_)
          · have c : cov g f = false := by simpa using e2
            refine ⟨fun σ' H' => ∃ y, σ' = [some (.ref a), some (.ref b), some (.int (st : Int)), y, some x] ∧ y = some (.int ((pl + 1 : Nat) : Int)) ∧ Same H H', fun σ' H' h => ?_, ?_⟩
            · obtain ⟨y, rfl, rfl, s3⟩ := h
              refine ⟨q.length - (pl + 1), by omega, pl + 1, rfl, s3, by omega, ?_, rfl⟩
              rw [eg, rst_cons, if_neg (by rw [c]; simp)] at ei
              exact ei
            · exact ⟨_, rfl, _, _, rfl, rfl, _, rfl, rfl, sm.trans s2⟩
          · have c : cov g f = true := by simpa using e2
            exact ⟨pl, rfl, sm.trans s2, hpl, ei, fun g' hg' => by rw [hg] at hg'; cases hg'; exact c⟩
        · have ge : q.length ≤ pl := by
            have : ¬ (pl : Int) < (ys.length : Int) := fun z => e (decide_eq_true z)
            omega
          exact ⟨pl, rfl, sm, hpl, ei, fun g hg => by
            have := (List.getElem?_eq_some_iff.mp hg).1
            omega⟩
      · rintro σ' H' ⟨pl, rfl, sm, hpl, ei, cv⟩
        refine ⟨.int pl, rfl, .ref b, rfl, b, ys, rfl, .inr (same_tup sm _ _ hb), rfl, _, rfl, ite2 (fun e => ?_) (fun e => ?_)⟩
        · have e' : pl = q.length := by
            have := V.int.inj (of_decide_eq_true e)
            omega
          rw [e', List.drop_length, rst_none] at ei
          show Q .non _
          have k' := k _ sm
          rw [← ei] at k'
          exact k'
        · have lt : pl < q.length := by
            have : ¬ V.int (pl : Int) = V.int (ys.length : Int) := fun z => e (decide_eq_true z)
            have : ¬ pl = ys.length := fun z => this (by rw [z])
            omega
          obtain ⟨v, g, hv, hg, _⟩ := iQ.at pl lt
          have eg := drop_at hg
          rw [eg, rst_cons, if_pos (cv g hg)] at ei
          refine ⟨.ref b, rfl, .int pl, rfl, .ref b, q, pl, g, rfl, hq.mono (same_tup sm), hg, fun H2 s2 => ?_⟩
          refine ⟨if g.1 = true then pl else pl + 1, _, rfl, sm.trans s2, by split <;> omega, ?_⟩
          by_cases kg : g.1 = true
          · rw [if_pos kg, ← eg] at ei
            rw [if_pos kg]
            exact ei
          · rw [if_neg kg] at ei
            rw [if_neg kg]
            exact ei
    · rintro σ H' ⟨pl, y3, rfl, sm, hpl, ei⟩
      rw [iP.len, List.drop_length, rst_nil] at ei
      have k' := k _ sm
      rw [← ei] at k'
      refine ⟨_, rfl, ?_⟩
      have e3 : plV q.length (some (q.drop pl)) = .int (pl : Int) := by
        show V.int _ = _
        rw [List.length_drop, show q.length - (q.length - pl) = pl by omega]
      rw [e3] at k'
      exact k'
theorem scIncl : FnScope ["product", "other"] ["product", "other"] (defScope sIsIncluded) := ⟨rfl, rfl, rfl, by decide +kernel, rfl, by decide +kernel, by decide +kernel⟩
structure DfIncl (K : PySem.W.Frag) (mg : Str → Option Value) where
  i : Df K mg "is_included" sIsIncluded ["product", "other"]
  p : Df K mg "place_behind" sPlaceBehind ["product", "other", "start"]
  b : Df K mg "behind" sBehind ["product", "place"]
  c : Df K mg "covers" sCovers ["factor", "other"]
  s : Df K mg "swallows" sSwallows ["factor", "other"]
theorem ok_incl (D : DfIncl K mg) (ma : mg "all" = none) (ml : mg "len" = none) :
    FnOk P w K mg base CX0 4 D.i.f D.i.fd ["product", "other"] (spIncl K) := by
  have Gp : FnOk P w K mg base CX0 3 D.p.f D.p.fd ["product", "other", "start"] (spPlc K) := ok_plc D.p D.b D.c D.s ma ml
  refine D.i.F.ok scIncl (fun vs H Q E h => ?_) (fun cdv A outer s H vs Q E hr h => ?_)
  · obtain ⟨x, y, p, q, rfl, _⟩ := h
    rfl
  · obtain ⟨x, y, p, q, rfl, hp, hq, pl3, ql3, k⟩ := h
    refine ⟨_, pss_one (ps_ret (pe_cmpR op_notN (pe_call Gp hr (by rfl) D.p.g D.p.F.kp D.p.b .nil pass0 (pa_cons (pv 0) (pa_cons (pv 1) (pa_cons pe_int pa_nil)))) pe_non (nomark _))), ?_⟩
    refine ⟨_, rfl, _, rfl, x, y, p, q, 0, rfl, hp, hq, Nat.zero_le _, pl3, ql3, fun H' sm => ⟨rfl, ?_⟩⟩
    rw [List.drop_zero]
    have e : (!decide (plV q.length (rst q p) = V.non)) = inc q p := by
      rw [← rst_inc]
      cases rst q p with
      | none => rfl
      | some r => rfl
    rw [e]
    exact k _ sm
end
end DW
namespace DW
open PySem PySem.Spec PyProof.Rows L2 TL
set_option autoImplicit false
/-! ### all ways to divide, by places -/
theorem dp_step {gs : List Fc} {f : Fc} {w : List Nat} {k c : Nat} (hk : w[k]? = some c) :
    Lg (gs ++ [f]) (w.take (k + 1)) ↔ Lg gs (w.take (k + 1)) ∨ (c ∈ ls f ∧ if f.1 = true then Lg (gs ++ [f]) (w.take k) else Lg gs (w.take k)) := by
  have e : w.take (k + 1) = w.take k ++ [c] := by rw [List.take_add_one, hk] <;> rfl
  rw [Lg.snoc]
  constructor
  · rintro (h | ⟨u, d, e2, hd, h⟩)
    · exact .inl h
    · rw [e] at e2
      obtain ⟨e3, e4⟩ := List.append_inj' e2 rfl
      cases e4
      rw [← e3] at h
      exact .inr ⟨hd, h⟩
  · rintro (h | ⟨hc, h⟩)
    · exact .inl h
    · exact .inr ⟨_, c, e, hc, h⟩
/-- bs tells for each place k up to |w| whether the letters ahead of it are a word -/
def Row (fs : List Fc) (w : List Nat) (bs : List Bool) : Prop := bs.length = w.length + 1 ∧ ∀ k b, bs[k]? = some b → (b = true ↔ Lg fs (w.take k))
/-- up to the place j the new factor counts -/
def Mid (gs : List Fc) (f : Fc) (w : List Nat) (j : Nat) (bs : List Bool) : Prop := bs.length = w.length + 1 ∧ ∀ k b, bs[k]? = some b → (b = true ↔ if k ≤ j then Lg (gs ++ [f]) (w.take k) else Lg gs (w.take k))
theorem mid_start {gs : List Fc} {f : Fc} {w : List Nat} {bs : List Bool} (h : Row gs w bs) : Mid gs f w 0 bs := by
  refine ⟨h.1, fun k b hk => ?_⟩
  rw [h.2 k b hk]
  by_cases c : k ≤ 0
  · have e : k = 0 := by omega
    subst e
    rw [if_pos c, List.take_zero]
    exact ⟨fun _ => Lg.empty _, fun _ => Lg.empty _⟩
  · rw [if_neg c]
theorem mid_end {gs : List Fc} {f : Fc} {w : List Nat} {bs : List Bool} (h : Mid gs f w w.length bs) : Row (gs ++ [f]) w bs := by
  refine ⟨h.1, fun k b hk => ?_⟩
  have := (List.getElem?_eq_some_iff.mp hk).1
  rw [h.2 k b hk, if_pos (by rw [h.1] at this; omega)]
theorem mid_set {gs : List Fc} {f : Fc} {w : List Nat} {j c : Nat} {bs : List Bool} (hj : w[j]? = some c) (h : Mid gs f w j bs) (hc : c ∈ ls f) (hs : if f.1 = true then Lg (gs ++ [f]) (w.take j) else Lg gs (w.take j)) : Mid gs f w (j + 1) (bs.set (j + 1) true) := by
  refine ⟨by rw [List.length_set, h.1], fun k b hk => ?_⟩
  by_cases e : k = j + 1
  · subst e
    have hl : j + 1 < bs.length := by
      have := (List.getElem?_eq_some_iff.mp hj).1
      rw [h.1]
      omega
    rw [List.getElem?_set_self hl] at hk
    cases hk
    rw [if_pos (Nat.le_refl _), dp_step hj]
    exact ⟨fun _ => .inr ⟨hc, hs⟩, fun _ => rfl⟩
  · rw [List.getElem?_set_ne (fun z => e z.symm)] at hk
    rw [h.2 k b hk]
    by_cases c : k ≤ j
    · rw [if_pos c, if_pos (by omega)]
    · rw [if_neg c, if_neg (by omega)]
theorem mid_not {gs : List Fc} {f : Fc} {w : List Nat} {j c : Nat} {bs : List Bool} (hj : w[j]? = some c) (h : Mid gs f w j bs) (hn : ¬ (c ∈ ls f ∧ if f.1 = true then Lg (gs ++ [f]) (w.take j) else Lg gs (w.take j))) : Mid gs f w (j + 1) bs := by
  refine ⟨h.1, fun k b hk => ?_⟩
  rw [h.2 k b hk]
  by_cases e : k = j + 1
  · subst e
    rw [if_neg (by omega), if_pos (Nat.le_refl _), dp_step hj]
    exact ⟨.inl, fun z => z.elim id fun q => absurd q hn⟩
  · by_cases c : k ≤ j
    · rw [if_pos c, if_pos (by omega)]
    · rw [if_neg c, if_neg (by omega)]
theorem Lg.of_nil {u : List Nat} (h : Lg [] u) : u = [] := by
  cases h
  rfl
def spInP (K : PySem.W.Frag) : Sp := fun vs H Q _ => ∃ (v : V) (fs : List Fc) (z : Str), vs = [v, .str z] ∧ IsP K H v fs ∧ (tl z).length ≤ 100000 ∧ ∀ H' b, Same H H' → (b = true ↔ Lg fs (tl z)) → Q (.bl b) H'
theorem mapbl_set (bs : List Bool) (j : Nat) (b : Bool) : (bs.map V.bl).set j (.bl b) = (bs.set j b).map V.bl := by
  rw [List.map_set]
section
variable {P : Program} {w : World} {K : PySem.W.Frag} {mg : Str → Option Value} {base : Heap}
theorem scInP : FnScope ["_law_product_here", "_law_word_here", "_law_places", "_law_kind", "_law_letters", "_law_before", "_law_k", "_law_source"] ["_law_product_here", "_law_word_here"] (defScope sLInProduct) := ⟨rfl, rfl, rfl, by decide +kernel, rfl, by decide +kernel, by decide +kernel⟩
theorem ok_inp (D : Df K mg "_law_in_product" sLInProduct ["_law_product_here", "_law_word_here"]) (B : Bl mg) (ml : mg "list" = none) : FnOk P w K mg base CX0 1 D.f D.fd ["_law_product_here", "_law_word_here"] (spInP K) := by
  refine D.F.ok scInP (fun vs H Q E h => ?_) (fun cdv A outer s H vs Q E hr h => ?_)
  · obtain ⟨v, fs, z, rfl, _⟩ := h
    rfl
  · obtain ⟨v, fs, z, rfl, ⟨a, xs, rfl, ha, iF⟩, zl, k⟩ := h
    have zs : z.length = (tl z).length := (Array.length_toList).symm
    refine ⟨_, PSs.nox (pss_cons (ps_set (i := 2) scInP.nd rfl (.inl rfl) (pe_op op_cat (pe_lst (pa_cons pe_bl pa_nil)) (pe_op op_rep (pe_lst (pa_cons pe_bl pa_nil)) (pe_callB call_len_str (by rfl) B.len PySem.boot_len (pa_cons (pv 1) pa_nil)))))
      (pss_cons (ps_for PassesOwn.never rfl (pi_tup (pv 0)) (pg_tup rfl (pgs_cons (pg_name (i := 3) scInP.nd rfl (.inl rfl)) (pgs_cons (pg_name (i := 4) scInP.nd rfl (.inl rfl)) pgs_nil)))
        (pss_cons (ps_set (i := 5) scInP.nd rfl (.inl rfl) (pe_callTy call_list_of (by rfl) ml (by decide +kernel) (pa_cons (pv 2) pa_nil)))
        (pss_one (ps_for PassesOwn.never rfl (pi_range1 rfl B.range (pa_cons (pe_callB call_len_str (by rfl) B.len PySem.boot_len (pa_cons (pv 1) pa_nil)) pa_nil)) (pg_name (i := 6) scInP.nd rfl (.inl rfl))
          (pss_cons (ps_set (i := 7) scInP.nd rfl (.inl rfl) (pe_ifExp (pt_cmpR op_eq (pv 3) pe_str (nomark _)) (pv 2) (pv 5)))
          (pss_one (ps_if (pw_and (pt_val (pe_ix ix_list (pv 7) (pv 6) (fun _ _ => rfl))) (pw_and1 (pt_cmpR op_in_sign (pe_ix ix_str (pv 1) (pv 6) (fun _ _ => rfl)) (pv 4) rfl))).pt
            (pss_one (ps_asg pe_bl (pg_sub (pv 2) (pe_op op_add (pv 6) pe_int) set_list))) pss_nil)))))))
      (pss_one (ps_ret (pe_ix ix_list (pv 2) (pe_callB call_len_str (by rfl) B.len PySem.boot_len (pa_cons (pv 1) pa_nil)) (fun _ _ => rfl)))))), ?_⟩
    have zsz : z.length ≤ sizeLine := by rw [zs, sizeLine_eq]; omega
    refine ⟨by show 1 ≤ sizeLine; decide, fun l1 e1 => ?_⟩
    refine ⟨by show 1 ≤ sizeLine; decide, fun l2 e2 => ?_⟩
    have s1 := same_upd (o := .lst [.bl true]) e1
    have s2 := same_upd (o := .lst [.bl false]) e2
    refine ⟨.str z, rfl, z, rfl, zsz, l2, (z.length : Int), _, rfl, rfl, upd_same, by omega, by omega, by show 1 * _ ≤ _; rw [sizeLine_eq]; omega, fun l3 e3 => ?_⟩
    have s3 := same_upd (o := .lst (List.replicate (z.length : Int).toNat [V.bl false]).flatten) e3
    refine ⟨l1, l3, _, _, rfl, rfl, s3 _ _ (s2 _ _ upd_same), upd_same, ?_, fun l e4 => ?_⟩
    · rw [sizeLine_eq]
      simp
      omega
    have eb : ([V.bl true] ++ (List.replicate (z.length : Int).toNat [V.bl false]).flatten) = (true :: List.replicate (tl z).length false).map V.bl := by
      rw [List.map_cons, List.map_replicate, ← zs]
      show V.bl true :: _ = _
      congr 1
      simp
    rw [eb] at *
    have s4 := same_upd (o := .lst ((true :: List.replicate (tl z).length false).map V.bl)) e4
    have sa : Same H _ := ((s1.trans s2).trans s3).trans s4
    have l0 : H l = none := ((s1.trans s2).trans s3).free e4
    have start : Row [] (tl z) (true :: List.replicate (tl z).length false) := by
      refine ⟨by simp, fun k b hk => ?_⟩
      cases k with
      | zero =>
        have : b = true := by
          have := Option.some.inj hk
          exact this.symm
        rw [this, List.take_zero]
        exact ⟨fun _ => .nil, fun _ => rfl⟩
      | succ k =>
        rw [List.getElem?_cons_succ, List.getElem?_replicate] at hk
        by_cases c : k < (tl z).length
        · rw [if_pos c] at hk
          cases hk
          constructor
          · intro h
            cases h
          · intro h
            have : (tl z).take (k + 1) = [] := Lg.of_nil h
            have := congrArg List.length this
            rw [List.length_take, List.length_nil] at this
            omega
        · rw [if_neg c] at hk
          cases hk
    refine ⟨.ref a, rfl, a, rfl, ⟨xs, same_tup sa _ _ ha⟩, for_it (walk_tup (xs := xs)) (fun i σ H' => ∃ (bs : List Bool) (y3 y4 y5 y6 y7 : Option V), σ = [some (.ref a), some (.str z), some (.ref l), y3, y4, y5, y6, y7] ∧ H' l = some (.lst (bs.map V.bl)) ∧ Row (fs.take i) (tl z) bs ∧ Same H H')
      ⟨_, _, _, _, _, _, rfl, upd_same, start, sa⟩ (fun _ _ H' _ ⟨_, _, _, _, _, _, _, _, _, sm⟩ => same_tup sm _ _ ha) ?_ ?_⟩
    · rintro i x σ G G' hi ⟨bs, y3, y4, y5, y6, y7, rfl, gl, row, sm⟩ ⟨rfl, hx⟩
      obtain ⟨f, hf, b, rfl, hb⟩ := iF.get i x hx
      have tk : fs.take (i + 1) = fs.take i ++ [f] := by rw [List.take_add_one, hf] <;> rfl
      refine ⟨b, _, rfl, same_tup sm _ _ hb, rfl, _, _, rfl, _, _, rfl, rfl, ?_⟩
      refine ⟨.ref l, rfl, l, _, rfl, .inl (SqL.of gl), fun d hd => ?_⟩
      have sd := same_upd (o := .lst (bs.map V.bl)) hd
      have nld : l ≠ d := ne_of_none gl hd
      have d0 : H d = none := sm.free hd
      refine ⟨.str z, rfl, z, rfl, zsz, (z.length : Int), rfl, by omega, by omega, ?_⟩
      refine for_it (n := z.length) walk_range (fun j σ H' => ∃ (cs : List Bool) (y6 y7 : Option V), σ = [some (.ref a), some (.str z), some (.ref l), some (.str (kd f.1)), some (.str f.2), some (.ref d), y6, y7] ∧ H' l = some (.lst (cs.map V.bl)) ∧ H' d = some (.lst (bs.map V.bl)) ∧ Mid (fs.take i) f (tl z) j cs ∧ Same H H')
        ⟨bs, _, _, rfl, sd _ _ gl, upd_same, mid_start row, sm.trans sd⟩ (fun _ _ _ _ _ => trivial) ?_ ?_
      · rintro j x σ G1 G2 hj ⟨cs, y6, y7, rfl, g1, g2, mid, sm1⟩ ⟨rfl, rfl⟩
        have jl : j < (tl z).length := by omega
        have hz : (tl z)[j]? = some (tl z)[j] := List.getElem?_eq_getElem jl
        have e0 : (0 : Int) + (j : Int) = (j : Int) := by omega
        refine ⟨.str (kd f.1), rfl, rfl, _, rfl, ?_⟩
        rw [kd_star]
        refine ite2 (fun e => ?_) (fun e => ?_)
        · obtain ⟨t, ht, hst⟩ : ∃ t, cs[j]? = some t ∧ (t = true ↔ if f.1 = true then Lg (fs.take i ++ [f]) ((tl z).take j) else Lg (fs.take i) ((tl z).take j)) := by
            have jb : j < cs.length := by rw [mid.1]; omega
            refine ⟨_, List.getElem?_eq_getElem jb, ?_⟩
            rw [mid.2 j _ (List.getElem?_eq_getElem jb), if_pos (Nat.le_refl _), if_pos e]
          refine ⟨.ref l, rfl, ?_⟩
          refine ⟨.ref l, rfl, .int (0 + (j : Int)), rfl, l, _, _, .bl t, rfl, rfl, SqL.of g1, at_of (j := j) e0 (by rw [List.getElem?_map, ht]; rfl), t, rfl, ite2 (fun e2 => ?_) (fun e2 => ?_)⟩
          · refine ⟨.str z, rfl, .int (0 + (j : Int)), rfl, z, _, (tl z)[j], rfl, rfl, zsz, at_cp (j := j) e0 hz, .str f.2, rfl, (tl z)[j], f.2, rfl, rfl, _, rfl, ite2 (fun e3 => ?_) (fun e3 => ?_)⟩
            · have hc : (tl z)[j] ∈ ls f := of_decide_eq_true e3
              have cl : j + 1 < (cs.map V.bl).length := by rw [List.length_map, mid.1]; omega
              refine ⟨.ref l, rfl, .int (0 + (j : Int)), rfl, _, _, rfl, rfl, l, _, _, j + 1, rfl, rfl, g1, ?_, ?_⟩
              · show ixN _ (0 + (j : Int) + 1) = some (j + 1)
                unfold ixN
                rw [if_pos (by omega), if_pos (by omega)]
                congr 1
                omega
              · rw [mapbl_set]
                exact ⟨_, _, _, rfl, upd_same, (upd_ne nld.symm).trans g2, mid_set hz mid hc (hst.mp e2), fun b u e => (upd_ne (ne_of_none e l0)).trans (sm1 _ _ e)⟩
            · exact ⟨cs, _, _, rfl, g1, g2, mid_not hz mid fun q => e3 (decide_eq_true q.1), sm1⟩
          · exact iteF ⟨cs, _, _, rfl, g1, g2, mid_not hz mid fun q => e2 (hst.mpr q.2), sm1⟩
        · obtain ⟨t, ht, hst⟩ : ∃ t, bs[j]? = some t ∧ (t = true ↔ if f.1 = true then Lg (fs.take i ++ [f]) ((tl z).take j) else Lg (fs.take i) ((tl z).take j)) := by
            have jb : j < bs.length := by rw [row.1]; omega
            refine ⟨_, List.getElem?_eq_getElem jb, ?_⟩
            rw [row.2 j _ (List.getElem?_eq_getElem jb), if_neg e]
          refine ⟨.ref d, rfl, ?_⟩
          refine ⟨.ref d, rfl, .int (0 + (j : Int)), rfl, d, _, _, .bl t, rfl, rfl, SqL.of g2, at_of (j := j) e0 (by rw [List.getElem?_map, ht]; rfl), t, rfl, ite2 (fun e2 => ?_) (fun e2 => ?_)⟩
          · refine ⟨.str z, rfl, .int (0 + (j : Int)), rfl, z, _, (tl z)[j], rfl, rfl, zsz, at_cp (j := j) e0 hz, .str f.2, rfl, (tl z)[j], f.2, rfl, rfl, _, rfl, ite2 (fun e3 => ?_) (fun e3 => ?_)⟩
            · have hc : (tl z)[j] ∈ ls f := of_decide_eq_true e3
              have cl : j + 1 < (cs.map V.bl).length := by rw [List.length_map, mid.1]; omega
              refine ⟨.ref l, rfl, .int (0 + (j : Int)), rfl, _, _, rfl, rfl, l, _, _, j + 1, rfl, rfl, g1, ?_, ?_⟩
              · show ixN _ (0 + (j : Int) + 1) = some (j + 1)
                unfold ixN
                rw [if_pos (by omega), if_pos (by omega)]
                congr 1
                omega
              · rw [mapbl_set]
                exact ⟨_, _, _, rfl, upd_same, (upd_ne nld.symm).trans g2, mid_set hz mid hc (hst.mp e2), fun b u e => (upd_ne (ne_of_none e l0)).trans (sm1 _ _ e)⟩
            · exact ⟨cs, _, _, rfl, g1, g2, mid_not hz mid fun q => e3 (decide_eq_true q.1), sm1⟩
          · exact iteF ⟨cs, _, _, rfl, g1, g2, mid_not hz mid fun q => e2 (hst.mpr q.2), sm1⟩
      · rintro σ H' ⟨cs, y6, y7, rfl, g1, g2, mid, sm1⟩
        exact ⟨cs, _, _, _, _, _, rfl, g1, by rw [tk]; exact mid_end (by rw [← zs]; exact mid), sm1⟩
    · rintro σ H' ⟨bs, y3, y4, y5, y6, y7, rfl, gl, row, sm⟩
      rw [iF.len, List.take_length] at row
      have hl : (tl z).length < bs.length := by rw [row.1]; omega
      have hb := List.getElem?_eq_getElem hl
      refine ⟨.ref l, rfl, .str z, rfl, z, rfl, zsz, l, _, _, .bl bs[(tl z).length], rfl, rfl, SqL.of gl, at_of (j := (tl z).length) (by rw [zs]) (by rw [List.getElem?_map, hb]; rfl), k _ _ sm ?_⟩
      have := row.2 _ _ hb
      rw [List.take_length] at this
      exact this
end
end DW
namespace DW
open PySem PySem.Spec PyProof.Rows L2 TL
set_option autoImplicit false
def spWords : Sp := fun vs H Q _ => ∃ (z : Str) (m : Int), vs = [.str z, .int m] ∧ Alph z ∧ 0 ≤ m ∧ m ≤ 4 ∧
  ∀ H' l (ws : List Str), Same H H' → H l = none → H' l = some (.lst (ws.map V.str)) → (∀ u ∈ ws, (tl u).length ≤ 4 ∧ OverW z u) → ws.length ≤ 200 → Q (.ref l) H'
def spSame : Sp := fun vs H Q _ => ∃ (a b : Bool), vs = [.bl a, .bl b] ∧ Q (.bl (decide (a = b))) H
section
variable {P : Program} {w : World} {K : PySem.W.Frag} {mg : Str → Option Value} {base : Heap}
theorem scSame : FnScope ["_law_found", "_law_due"] ["_law_found", "_law_due"] (defScope sLSame) := ⟨rfl, rfl, rfl, by decide +kernel, rfl, by decide +kernel, by decide +kernel⟩
theorem ok_same (D : Df K mg "_law_same" sLSame ["_law_found", "_law_due"]) : FnOk P w K mg base CX0 1 D.f D.fd ["_law_found", "_law_due"] spSame := by
  refine D.F.ok scSame (fun vs H Q E h => ?_) (fun cdv A outer s H vs Q E hr h => ?_)
  · obtain ⟨a, b, rfl, _⟩ := h
    rfl
  · obtain ⟨a, b, rfl, k⟩ := h
    refine ⟨_, pss_one (ps_ret (pe_ifExp (pt_val (pv 1)) (pe_cmpR op_isBl (pv 0) pe_bl (nomark _)) (pe_cmpR op_isBl (pv 0) pe_bl (nomark _)))), ?_⟩
    refine ⟨.bl b, rfl, b, rfl, ite2 (fun e => ?_) (fun e => ?_)⟩
    · refine ⟨.bl a, rfl, a, true, rfl, rfl, ?_⟩
      rw [e] at k
      exact k
    · refine ⟨.bl a, rfl, a, false, rfl, rfl, ?_⟩
      have e' : b = false := by simpa using e
      rw [e'] at k
      exact k
theorem scWords : FnScope ["_law_alphabet_here", "_law_longest", "_law_found", "_law_last", "_law_k", "_law_longer", "_law_word_here", "_law_letter"] ["_law_alphabet_here", "_law_longest"] (defScope sLWords) := ⟨rfl, rfl, rfl, by decide +kernel, rfl, by decide +kernel, by decide +kernel⟩
theorem ok_words (D : Df K mg "_law_words" sLWords ["_law_alphabet_here", "_law_longest"]) (B : Bl mg) : FnOk P w K mg base CX0 1 D.f D.fd ["_law_alphabet_here", "_law_longest"] spWords := by
  refine D.F.ok scWords (fun vs H Q E h => ?_) (fun cdv A outer s H vs Q E hr h => ?_)
  · obtain ⟨z, m, rfl, _⟩ := h
    rfl
  · obtain ⟨z, m, rfl, al, m0, m4, k⟩ := h
    have zs : z.cps.size = (tl z).length := (Array.length_toList).symm
    refine ⟨_, PSs.nox (pss_cons (ps_par (i := 2) (j := 3) rfl scWords.nd rfl rfl (by decide) rfl rfl (pa_cons (pe_lst (pa_cons pe_str pa_nil)) (pa_cons (pe_lst (pa_cons pe_str pa_nil)) pa_nil)) (by rfl))
      (pss_cons (ps_for PassesOwn.never rfl (pi_range1 rfl B.range (pa_cons (pv 1) pa_nil)) (pg_name (i := 4) scWords.nd rfl (.inl rfl))
        (pss_cons (ps_set (i := 5) scWords.nd rfl (.inl rfl) (pe_lst pa_nil))
        (pss_cons (ps_for PassesOwn.never rfl (pi_list (pv 3)) (pg_name (i := 6) scWords.nd rfl (.inr rfl))
          (pss_one (ps_expr (pe_bm PySem.F.plainAttrs_list PySem.F.slot_list_extend PySem.F.type_list_extend mt_extend (pv 5) (pa_cons
            (pe_lc (own := [("_law_letter", 7)]) (g := gName 7) rfl scWords.nd (pi_str (pv 0)) (blkOk_by (N := ["_law_alphabet_here", "_law_longest", "_law_found", "_law_last", "_law_k", "_law_longer", "_law_word_here", "_law_letter"]) (sc := defScope sLWords) (by decide +kernel))
              (fun _ _ _ _ _ => pg_name (i := 7) scWords.nd rfl (Or.inl rfl)) (fun _ _ _ _ _ => pts_nil) (fun _ _ _ _ _ => pe_op op_add_str (pv 6) (pv 7))) pa_nil)))))
        (pss_one (ps_par (i := 2) (j := 3) rfl scWords.nd rfl rfl (by decide) rfl rfl (pa_cons (pe_op op_cat (pv 2) (pv 5)) (pa_cons (pv 5) pa_nil)) (by rfl))))))
      (pss_one (ps_ret (pv 2))))), ?_⟩
    refine ⟨by show 1 ≤ sizeLine; decide, fun l1 e1 => ⟨by show 1 ≤ sizeLine; decide, fun l2 e2 => ⟨_, _, rfl, ?_⟩⟩⟩
    have s1 := same_upd (o := .lst [V.str ""]) e1
    have s2 := same_upd (o := .lst [V.str ""]) e2
    have p81 : ∀ i : Nat, i ≤ 4 → 3 ^ i ≤ 81 := fun i hi => Nat.pow_le_pow_right (n := 3) (by decide) hi
    refine ⟨.int m, rfl, m, rfl, by omega, by omega, for_it (n := m.toNat) walk_range (fun i σ H' => ∃ (lf ll : Addr) (fw lw : List Str) (y4 y5 y6 : Option V), σ = [some (.str z), some (.int m), some (.ref lf), some (.ref ll), y4, y5, y6, none] ∧
      H' lf = some (.lst (fw.map V.str)) ∧ H' ll = some (.lst (lw.map V.str)) ∧ (∀ u ∈ lw, (tl u).length = i ∧ OverW z u) ∧ (∀ u ∈ fw, (tl u).length ≤ i ∧ OverW z u) ∧ lw.length ≤ 3 ^ i ∧ fw.length ≤ 2 * 3 ^ i ∧ Same H H' ∧ H lf = none)
      ⟨l1, l2, [""], [""], _, _, _, rfl, s2 _ _ upd_same, upd_same, ?_, ?_, by decide, by decide, s1.trans s2, e1⟩ (fun _ _ _ _ _ => trivial) ?_ ?_⟩
    · intro u hu
      rw [List.mem_singleton.mp hu]
      exact ⟨rfl, fun c hc => (nomatch hc)⟩
    · intro u hu
      rw [List.mem_singleton.mp hu]
      exact ⟨Nat.le_refl _, fun c hc => (nomatch hc)⟩
    · rintro i x σ G G' hi ⟨lf, ll, fw, lw, y4, y5, y6, rfl, gf, gl, hlw, hfw, cl, cf, sm, lf0⟩ ⟨rfl, rfl⟩
      have t81 := p81 i (by omega)
      refine ⟨Nat.zero_le _, fun g hg => ?_⟩
      have sg := same_upd (o := .lst []) hg
      have g0 : H g = none := sm.free hg
      have nfg : lf ≠ g := ne_of_none gf hg
      have nlg : ll ≠ g := ne_of_none gl hg
      refine ⟨.ref ll, rfl, ll, rfl, ⟨_, SqL.of (sg _ _ gl)⟩, for_it (walk_list (xs := lw.map V.str)) (fun j σ H' => ∃ (gw : List Str) (y6 : Option V), σ = [some (.str z), some (.int m), some (.ref lf), some (.ref ll), some (.int (0 + (i : Int))), some (.ref g), y6, none] ∧
        H' g = some (.lst (gw.map V.str)) ∧ H' lf = some (.lst (fw.map V.str)) ∧ H' ll = some (.lst (lw.map V.str)) ∧ (∀ u ∈ gw, (tl u).length = i + 1 ∧ OverW z u) ∧ gw.length ≤ 3 * j ∧ Same H H')
        ⟨[], _, rfl, upd_same, sg _ _ gf, sg _ _ gl, fun u hu => (nomatch hu), Nat.zero_le _, sm.trans sg⟩ (fun _ _ _ _ ⟨_, _, _, _, _, h, _⟩ => SqL.of h) ?_ ?_⟩
      · rintro j x σ G1 G2 hj ⟨gw, y6, rfl, g1, g2, g3, hgw, cg, sm1⟩ ⟨rfl, hx⟩
        rw [List.length_map] at hj
        obtain ⟨u, hu, rfl⟩ : ∃ u, lw[j]? = some u ∧ x = V.str u := by
          rw [List.getElem?_map] at hx
          cases q : lw[j]? with
          | none => rw [q] at hx; cases hx
          | some u => rw [q] at hx; exact ⟨u, rfl, (Option.some.inj hx).symm⟩
        have um := hlw u (List.mem_of_getElem? hu)
        refine ⟨.ref g, rfl, .inl ⟨rfl, _, SqL.of g1⟩, .str z, rfl, z, rfl, fun D hD => ?_⟩
        have sD := same_upd (o := .lst []) hD
        have nD1 : g ≠ D := ne_of_none g1 hD
        have nD2 : lf ≠ D := ne_of_none g2 hD
        have nD3 : ll ≠ D := ne_of_none g3 hD
        have D0 : H D = none := sm1.free hD
        refine lc_it walk_str (fun n H' => ∃ ds : List Str, H' D = some (.lst (ds.map V.str)) ∧ ds.length = n ∧ (∀ v ∈ ds, (tl v).length = i + 1 ∧ OverW z v) ∧ H' g = some (.lst (gw.map V.str)) ∧ H' lf = some (.lst (fw.map V.str)) ∧ H' ll = some (.lst (lw.map V.str)) ∧ Same H H') ?_ (fun _ _ _ _ => trivial) ?_ ?_
        · exact ⟨[], upd_same, rfl, fun v hv => (nomatch hv), sD _ _ g1, sD _ _ g2, sD _ _ g3, sm1.trans sD⟩
        · rintro n x G3 G4 hn ⟨ds, h1, dl, h2, h3, h4, h5, sm3⟩ ⟨rfl, d, hd, rfl⟩
          have dm : d ∈ tl z := List.mem_of_getElem? (i := n) (by rw [Array.getElem?_toList]; exact hd)
          refine ⟨rfl, yes ?_⟩
          refine ⟨_, rfl, _, rfl, u, ⟨#[d]⟩, rfl, rfl, ?_, _, h1, ?_, ds ++ [u ++ (⟨#[d]⟩ : Str)], by rw [upd_same, List.map_append]; rfl, by rw [List.length_append, dl]; rfl, fun v hv => ?_, (upd_ne nD1).trans h3, (upd_ne nD2).trans h4, (upd_ne nD3).trans h5, fun b o e => (upd_ne (ne_of_none e D0)).trans (sm3 _ _ e)⟩
          · have : u.length = i := by rw [← um.1]; exact (Array.length_toList).symm
            rw [this, sizeLine_eq]
            show i + 1 ≤ _
            omega
          · rw [List.length_map, dl, sizeLine_eq]
            have := al.2.2.1
            omega
          · rcases List.mem_append.mp hv with q | q
            · exact h2 v q
            · rw [List.mem_singleton.mp q]
              refine ⟨by rw [tl_app, List.length_append, um.1]; rfl, fun c hc => ?_⟩
              rw [tl_app] at hc
              rcases List.mem_append.mp hc with q | q
              · exact um.2 c q
              · rw [List.mem_singleton.mp q]
                exact dm
        · rintro G3 ⟨ds, h1, dl, h2, h3, h4, h5, sm3⟩
          have l3 := al.2.2.1
          refine ⟨g, D, _, _, rfl, rfl, h3, h1, ?_, gw ++ ds, _, rfl, by rw [upd_same, List.map_append], (upd_ne nfg).trans h4, (upd_ne nlg).trans h5, fun v hv => ?_, by rw [List.length_append, dl]; omega, fun b o e => (upd_ne (ne_of_none e g0)).trans (sm3 _ _ e)⟩
          · rw [List.length_map, List.length_map, dl, sizeLine_eq]
            omega
          · rcases List.mem_append.mp hv with q | q
            · exact hgw v q
            · exact h2 v q
      · rintro σ H' ⟨gw, y6, rfl, g1, g2, g3, hgw, cg, sm1⟩
        rw [List.length_map] at cg
        refine ⟨.ref lf, rfl, .ref g, rfl, lf, g, _, _, rfl, rfl, g2, g1, ?_, fun p hp => ⟨.ref g, rfl, _, _, rfl, ?_⟩⟩
        · rw [List.length_map, List.length_map, sizeLine_eq]
          omega
        have sp := same_upd (o := .lst (fw.map V.str ++ gw.map V.str)) hp
        refine ⟨p, g, fw ++ gw, gw, _, _, _, rfl, by rw [upd_same, List.map_append], sp _ _ g1, hgw, fun v hv => ?_, ?_, ?_, sm1.trans sp, sm1.free hp⟩
        · rcases List.mem_append.mp hv with q | q
          · exact ⟨Nat.le_succ_of_le (hfw v q).1, (hfw v q).2⟩
          · exact ⟨Nat.le_of_eq (hgw v q).1, (hgw v q).2⟩
        · rw [Nat.pow_succ]
          omega
        · rw [List.length_append, Nat.pow_succ]
          omega
    · rintro σ H' ⟨lf, ll, fw, lw, y4, y5, y6, rfl, gf, gl, hlw, hfw, cl, cf, sm, lf0⟩
      have t81 := p81 m.toNat (by omega)
      exact ⟨_, rfl, k _ lf fw sm lf0 gf (fun u hu => ⟨Nat.le_trans (hfw u hu).1 (by omega), (hfw u hu).2⟩) (by omega)⟩
end
end DW
namespace DW
open PySem PySem.Spec PyProof.Rows L2 TL
set_option autoImplicit false
theorem fok_w1 {z : Str} {fs : List Fc} (h : ∀ f ∈ fs, FOk z f) : W1 fs := fun f hf => ⟨(h f hf).1, (h f hf).2.2⟩
theorem fok_len {z : Str} (al : Alph z) {f : Fc} (h : FOk z f) : (ls f).length ≤ 3 := Nat.le_trans h.2.1.length_le al.2.2.1
theorem fok_low {z : Str} (al : Alph z) {f : Fc} (h : FOk z f) : Low f := ⟨fun c hc => by
  have := al.2.2.2 c (h.2.1.subset hc)
  omega, Nat.le_trans (fok_len al h) (by decide)⟩
theorem alph_ne {z : Str} (al : Alph z) : tl z ≠ [] := fun q => by
  have := al.2.1
  rw [q] at this
  cases this
theorem inc_iff {p q : List Fc} (wp : W1 p) (wq : W1 q) : inc q p = true ↔ Lg q (unf p (q.length + 1)) :=
  ⟨fun h => inc_sound q p h _ (Lg.unf _ p fun f hf => (wp f hf).2), fun h => inc_complete (q.length + 1) p q wp wq (Nat.lt_succ_self _) h⟩
/-! ### words as products of optional letters -/
def ones (w : List Nat) : List Fc := w.map fun c => (false, one c)
theorem unf_ones (w : List Nat) (m : Nat) : unf (ones w) m = w := by
  unfold unf ones
  induction w with
  | nil => rfl
  | cons c w ih =>
    rw [List.map_cons, List.map_cons, List.flatten_cons, ih]
    rfl
theorem w1_ones (w : List Nat) : W1 (ones w) := fun f hf => by
  obtain ⟨c, _, rfl⟩ := List.mem_map.mp hf
  exact ⟨by simp [ls, one], fun _ => rfl⟩
theorem acc_iff {q : List Fc} (wq : W1 q) (w : List Nat) : inc q (ones w) = true ↔ Lg q w := by
  rw [inc_iff (w1_ones w) wq, unf_ones]
theorem low_ones {w : List Nat} (h : ∀ c ∈ w, c < 128) : ∀ f ∈ ones w, Low f := fun f hf => by
  obtain ⟨c, hc, rfl⟩ := List.mem_map.mp hf
  exact ⟨fun d hd => by rw [List.mem_singleton.mp hd]; exact h c hc, by show 1 ≤ 1000; decide⟩
theorem Lg.sub {fs : List Fc} {u w : List Nat} (h : Lg fs u) (s : w.Sublist u) : Lg fs w := by
  induction h generalizing w with
  | nil =>
    rw [List.sublist_nil.mp s]
    exact .nil
  | skip h ih => exact .skip (ih s)
  | opt k m h ih =>
    cases s with
    | cons _ s => exact .skip (ih s)
    | cons_cons _ s => exact .opt k m (ih s)
  | star k m h ih =>
    cases s with
    | cons _ s => exact ih s
    | cons_cons _ s => exact .star k m (ih s)
theorem sub_rep {L : List Nat} : ∀ (u : List Nat) (m : Nat), (∀ c ∈ u, c ∈ L) → u.length ≤ m → u.Sublist (List.replicate m L).flatten
  | [], _, _, _ => List.nil_sublist _
  | c :: u, 0, _, h => by simp at h
  | c :: u, m + 1, h, hl => by
    rw [List.replicate_succ, List.flatten_cons]
    have h1 : [c].Sublist L := List.singleton_sublist.mpr (h c List.mem_cons_self)
    have h2 := sub_rep u m (fun d hd => h d (List.mem_cons_of_mem _ hd)) (by rw [List.length_cons] at hl; omega)
    exact h1.append h2
theorem Lg.to_unf (m : Nat) : ∀ (fs : List Fc) (w : List Nat), (∀ f ∈ fs, f.1 = false → (ls f).length = 1) → Lg fs w → w.length ≤ m → w.Sublist (DW.unf fs m)
  | [], w, _, h, _ => by
    rw [Lg.of_nil h]
    exact List.nil_sublist _
  | f :: fs, w, h1, h, hl => by
    obtain ⟨u, v, rfl, hu, hv⟩ := Lg.split (fs := [f]) h
    rw [List.length_append] at hl
    have ih := Lg.to_unf m fs v (fun g hg => h1 g (List.mem_cons_of_mem _ hg)) hv (by omega)
    have e : DW.unf (f :: fs) m = piece m f ++ DW.unf fs m := rfl
    rw [e]
    refine List.Sublist.append ?_ ih
    unfold piece
    by_cases k : f.1 = true
    · rw [if_pos k]
      exact sub_rep u m ((Lg.one_star k).mp hu) (by omega)
    · rw [if_neg k]
      have k' : f.1 = false := by simpa using k
      rcases Lg.one_opt k' hu with e | ⟨c, hc, e⟩
      · rw [e]
        exact List.nil_sublist _
      · rw [e]
        exact List.singleton_sublist.mpr hc
theorem sub_unf_iff {fs : List Fc} (wf : W1 fs) {w : List Nat} {m : Nat} (hm : w.length ≤ m) : w.Sublist (unf fs m) ↔ Lg fs w :=
  ⟨fun s => (Lg.unf m fs fun f hf => (wf f hf).2).sub s, fun h => Lg.to_unf m fs w (fun f hf => (wf f hf).2) h hm⟩
/-! ### letters taken one after the other -/
def rem : List Nat → List Nat → List Nat
  | w, [] => w
  | [], _ :: _ => []
  | c :: w, d :: o => if c = d then rem w o else rem (c :: w) o
theorem rem_nil : ∀ o : List Nat, rem [] o = []
  | [] => rfl
  | _ :: _ => rfl
theorem rem_iff : ∀ (o w : List Nat), rem w o = [] ↔ w.Sublist o
  | [], w => by
    show w = [] ↔ _
    rw [List.sublist_nil]
  | d :: o, [] => by simp [rem]
  | d :: o, c :: w => by
    show (if c = d then rem w o else rem (c :: w) o) = [] ↔ _
    by_cases e : c = d
    · subst e
      rw [if_pos rfl, rem_iff o w, List.cons_sublist_cons]
    · rw [if_neg e, rem_iff o (c :: w)]
      constructor
      · exact fun h => .cons _ h
      · intro h
        cases h with
        | cons _ h => exact h
        | cons_cons _ h => exact absurd rfl e
theorem cut_tail {z : Str} {c : Nat} {r : List Nat} (h : tl z = c :: r) : tl (cutS z (some 1) none) = r := by
  have zl : z.length = r.length + 1 := by
    have e : z.length = (tl z).length := (Array.length_toList).symm
    rw [e, h]
    rfl
  show ((z.cps.toList.drop (HT.sIx z.length 0 (some 1))).take (HT.sIx z.length z.length none - HT.sIx z.length 0 (some 1))) = r
  rw [show HT.sIx z.length 0 (some 1) = min 1 z.length from HT.sIx_nat z.length 0 1, HT.sIx_none]
  have h' : z.cps.toList = c :: r := h
  rw [h', show min 1 z.length = 1 by omega, show z.length - 1 = r.length by omega]
  show List.take r.length r = r
  exact List.take_length
def spSubw (K : PySem.W.Frag) : Sp := fun vs H Q _ => ∃ z : Str, vs = [.str z] ∧ (tl z).length ≤ 100000 ∧ ∀ H' v, Same H H' → IsP K H' v (ones (tl z)) → Q v H'
def spAcc (K : PySem.W.Frag) : Sp := fun vs H Q _ => ∃ (v : V) (fs : List Fc) (z : Str), vs = [v, .str z] ∧ IsP K H v fs ∧ W1 fs ∧ (∀ f ∈ fs, Low f) ∧ (tl z).length ≤ 100000 ∧ (∀ c ∈ tl z, c < 128) ∧ ∀ H' b, Same H H' → (b = true ↔ Lg fs (tl z)) → Q (.bl b) H'
def spSubL : Sp := fun vs H Q _ => ∃ (x y : Str), vs = [.str x, .str y] ∧ (tl x).length ≤ 1000000 ∧ ∀ b, (b = true ↔ (tl x).Sublist (tl y)) → Q (.bl b) H
section
variable {P : Program} {w : World} {K : PySem.W.Frag} {mg : Str → Option Value} {base : Heap}
theorem scSubw : FnScope ["word", "letter"] ["word"] (defScope sSubwordsProduct) := ⟨rfl, rfl, rfl, by decide +kernel, rfl, by decide +kernel, by decide +kernel⟩
theorem ok_subw (D : Df K mg "subwords_product" sSubwordsProduct ["word"]) (mt : mg "tuple" = none) : FnOk P w K mg base CX0 1 D.f D.fd ["word"] (spSubw K) := by
  refine D.F.ok scSubw (fun vs H Q E h => ?_) (fun cdv A outer s H vs Q E hr h => ?_)
  · obtain ⟨z, rfl, _⟩ := h
    rfl
  · obtain ⟨z, rfl, zl, k⟩ := h
    have zs : z.cps.size = (tl z).length := (Array.length_toList).symm
    refine ⟨_, (pss_one (ps_ret (pe_callTy call_tuple_of (by rfl) mt (by decide +kernel) (pa_cons (pe_lc (own := [("letter", 1)]) (g := gName 1) rfl scSubw.nd (pi_str (pv 0)) (blkOk_by (N := ["word", "letter"]) (sc := defScope sSubwordsProduct) (by decide +kernel)) (fun _ _ _ _ _ => pg_name (i := 1) scSubw.nd rfl (Or.inl rfl)) (fun _ _ _ _ _ => pts_nil) (fun _ _ _ _ _ => (pe_tup (pa_cons pe_str (pa_cons (pv 1) pa_nil))))) pa_nil)))), ?_⟩
    refine ⟨.str z, rfl, z, rfl, fun D hD => ?_⟩
    refine lc_it walk_str (fun i H' => ∃ us : List V, H' D = some (.lst us) ∧ IsFs K H' us (ones ((tl z).take i)) ∧ Same H H') ?_ (fun _ _ _ _ => trivial) ?_ ?_
    · exact ⟨[], upd_same, .nil, same_upd hD⟩
    · rintro i x G G' hi ⟨us, gD, iF, sm⟩ ⟨rfl, d, hd, rfl⟩
      have hd' : (tl z)[i]? = some d := by rw [Array.getElem?_toList]; exact hd
      refine ⟨rfl, yes ?_⟩
      refine ⟨_, rfl, by show 2 ≤ sizeLine; decide, fun p hp => ?_⟩
      have sp := same_upd (o := .tup [.str "opt", .str ⟨#[d]⟩]) hp
      have gD1 := sp _ _ gD
      refine ⟨us, gD1, ?_, us ++ [.ref p], upd_same, ?_, fun b o e => (upd_ne (ne_of_none e hD)).trans (sp _ _ (sm _ _ e))⟩
      · rw [iF.len]
        unfold ones
        rw [List.length_map, List.length_take, sizeLine_eq]
        omega
      · have e : ones ((tl z).take (i + 1)) = ones ((tl z).take i) ++ [(false, one d)] := by
          unfold ones
          rw [List.take_add_one, hd', List.map_append]
          rfl
        rw [e]
        exact ((iF.mono (same_tup sp)).snoc ⟨p, rfl, SqT.of upd_same⟩).mono (upd_tup gD1)
    · rintro G ⟨us, gD, iF, sm⟩
      rw [zs, List.take_length] at iF
      refine ⟨D, us, rfl, .inl ⟨SqL.of gD, fun p hp => ?_⟩⟩
      have sp := same_upd (o := .tup us) hp
      exact k _ _ (sm.trans sp) ⟨p, us, rfl, SqT.of upd_same, iF.mono (same_tup sp)⟩
theorem scAcc : FnScope ["product", "word"] ["product", "word"] (defScope sAccepts) := ⟨rfl, rfl, rfl, by decide +kernel, rfl, by decide +kernel, by decide +kernel⟩
theorem ok_acc (D : Df K mg "accepts" sAccepts ["product", "word"]) (Dw : Df K mg "subwords_product" sSubwordsProduct ["word"]) (Di : DfIncl K mg)
    (mt : mg "tuple" = none) (ma : mg "all" = none) (ml : mg "len" = none) : FnOk P w K mg base CX0 5 D.f D.fd ["product", "word"] (spAcc K) := by
  have Gs : FnOk P w K mg base CX0 1 Dw.f Dw.fd ["word"] (spSubw K) := ok_subw Dw mt
  have Gi : FnOk P w K mg base CX0 4 Di.i.f Di.i.fd ["product", "other"] (spIncl K) := ok_incl Di ma ml
  refine D.F.ok scAcc (fun vs H Q E h => ?_) (fun cdv A outer s H vs Q E hr h => ?_)
  · obtain ⟨v, fs, z, rfl, _⟩ := h
    rfl
  · obtain ⟨v, fs, z, rfl, isp, wf, low, zl, zlow, k⟩ := h
    have hr1 : Room 1 _ := hr.mono (by decide)
    refine ⟨_, (pss_one (ps_ret (pe_call Gi hr (by rfl) Di.i.g Di.i.F.kp Di.i.b .nil pass0 (pa_cons (pe_call Gs hr1 (by rfl) Dw.g Dw.F.kp Dw.b .nil pass0 (pa_cons (pv 1) pa_nil)) (pa_cons (pv 0) pa_nil))))), ?_⟩
    refine ⟨.str z, rfl, z, rfl, zl, fun H1 u s1 isu => ?_⟩
    exact ⟨v, rfl, u, v, ones (tl z), fs, rfl, isu, isp.mono (same_tup s1), low_ones zlow, low, fun H2 s2 => k _ _ (s1.trans s2) (acc_iff wf _)⟩
theorem scSubL : FnScope ["_law_word_here", "_law_other", "_law_letter"] ["_law_word_here", "_law_other"] (defScope sLIsSubword) := ⟨rfl, rfl, rfl, by decide +kernel, rfl, by decide +kernel, by decide +kernel⟩
theorem ok_subl (D : Df K mg "_law_is_subword" sLIsSubword ["_law_word_here", "_law_other"]) : FnOk P w K mg base CX0 1 D.f D.fd ["_law_word_here", "_law_other"] spSubL := by
  refine D.F.ok scSubL (fun vs H Q E h => ?_) (fun cdv A outer s H vs Q E hr h => ?_)
  · obtain ⟨x, y, rfl, _⟩ := h
    rfl
  · obtain ⟨x, y, rfl, xl, k⟩ := h
    have ys : y.cps.size = (tl y).length := (Array.length_toList).symm
    refine ⟨_, PSs.nox (pss_cons (ps_for PassesOwn.never rfl (pi_str (pv 1)) (pg_name (i := 2) scSubL.nd rfl (.inl rfl)) (pss_one (ps_if (pw_and (pt_cmpR op_ne (pv 0) pe_str (nomark _)) (pw_and1 (pt_cmpR op_eq (pe_ix ix_str (pv 0) pe_int (fun _ _ => rfl)) (pv 2) (nomark _)))).pt (pss_one (ps_set (i := 0) scSubL.nd rfl (.inl rfl) (pe_slice sl_str (pv 0) (po_some pe_int) po_none))) pss_nil))) (pss_one (ps_ret (pe_cmpR op_eq (pv 0) pe_str (nomark _))))), ?_⟩
    refine ⟨.str y, rfl, y, rfl, for_it walk_str (fun i σ H' => ∃ (u : Str) (y2 : Option V), σ = [some (.str u), some (.str y), y2] ∧ H' = H ∧ rem (tl u) ((tl y).drop i) = rem (tl x) (tl y) ∧ (tl u).length ≤ 1000000) ⟨x, _, rfl, rfl, rfl, xl⟩ (fun _ _ _ _ _ => trivial) ?_ ?_⟩
    · rintro i v σ G G' hi ⟨u, y2, rfl, rfl, er, ul⟩ ⟨rfl, d, hd, rfl⟩
      have hd' : (tl y)[i]? = some d := by rw [Array.getElem?_toList]; exact hd
      have us : u.length = (tl u).length := (Array.length_toList).symm
      rw [drop_at hd'] at er
      refine ⟨.str u, rfl, rfl, _, rfl, ?_⟩
      cases q : tl u with
      | nil =>
        have e : u = "" := tl_inj q
        rw [e, show (!decide (V.str "" = V.str "")) = false by simp]
        refine iteF (iteF ⟨"", _, rfl, rfl, ?_, by decide⟩)
        rw [q, rem_nil] at er
        rw [← er]
        show rem [] _ = []
        exact rem_nil _
      | cons c r =>
        rw [show (!decide (V.str u = V.str "")) = true by
          rw [decide_eq_false fun e => by
            have := V.str.inj e
            rw [this] at q
            cases q]
          rfl]
        refine iteT ?_
        rw [q] at er
        have e0 : rem (c :: r) (d :: (tl y).drop (i + 1)) = if c = d then rem r ((tl y).drop (i + 1)) else rem (c :: r) ((tl y).drop (i + 1)) := rfl
        rw [e0] at er
        refine ⟨.str u, rfl, u, 0, c, rfl, rfl, by rw [us, sizeLine_eq]; omega, at_cp (j := 0) rfl (by show (tl u)[0]? = _; rw [q]; rfl), _, rfl, rfl, _, rfl, ite2 (fun e => ?_) (fun e => ?_)⟩
        · have ec : c = d := by
            have := V.str.inj (of_decide_eq_true e)
            have := congrArg tl this
            exact (List.cons.inj this).1
          rw [if_pos ec] at er
          refine ⟨.str u, rfl, 1, rfl, u, rfl, by rw [us, sizeLine_eq]; omega, ?_⟩
          refine ⟨cutS u (some 1) none, _, rfl, rfl, by rw [cut_tail q]; exact er, ?_⟩
          rw [cut_tail q]
          rw [q, List.length_cons] at ul
          omega
        · have ec : ¬ c = d := fun z => e (decide_eq_true (by rw [z]))
          rw [if_neg ec] at er
          exact ⟨u, _, rfl, rfl, by rw [q]; exact er, ul⟩
    · rintro σ G ⟨u, y2, rfl, rfl, er, ul⟩
      rw [ys, List.drop_length] at er
      refine ⟨.str u, rfl, rfl, k _ ?_⟩
      rw [← rem_iff, ← er]
      show decide (V.str u = V.str "") = true ↔ tl u = []
      rw [decide_eq_true_eq]
      constructor
      · intro e
        rw [V.str.inj e]
        rfl
      · intro e
        have : u = "" := tl_inj e
        rw [this]
end
end DW
namespace DW
open PySem PySem.Spec PyProof.Rows L2 TL
set_option autoImplicit false
def spWord : Sp := fun vs H Q _ => ∃ (t c : Addr) (n : Nat) (z : Str) (m : Int), vs = [.ref t, .str z, .int m] ∧ Tape H t c n ∧ n + 200 < 2 ^ 40 ∧ Alph z ∧ 0 ≤ m ∧ m ≤ 100 ∧
  ∀ H' u, Kp t H H' → Tape H' t c (n + 200) → OverW z u → ((tl u).length : Int) ≤ m → Q (.str u) H'
section
variable {P : Program} {w : World} {K : PySem.W.Frag} {mg : Str → Option Value} {base : Heap}
theorem scWord : FnScope ["_law_tape", "_law_alphabet_here", "_law_longest", "_law_k"] ["_law_tape", "_law_alphabet_here", "_law_longest"] (defScope sWord) := ⟨rfl, rfl, rfl, by decide +kernel, rfl, by decide +kernel, by decide +kernel⟩
theorem ok_word (D : Df K mg "_law_word" sWord ["_law_tape", "_law_alphabet_here", "_law_longest"]) (Dd : DfDraw K mg) (Dp : DfPick K mg) (B : Bl mg) : FnOk P w K mg base CX0 3 D.f D.fd ["_law_tape", "_law_alphabet_here", "_law_longest"] spWord := by
  have Gd : FnOk P w K mg base CX0 1 Dd.f Dd.fd ["_law_tape", "_law_many"] spDraw := ok_draw Dd B.len
  have Gp : FnOk P w K mg base CX0 2 Dp.f Dp.fd ["_law_tape", "_law_items"] (spPick K) := ok_pick Dp Dd B.len
  refine D.F.ok scWord (fun vs H Q E h => ?_) (fun cdv A outer s H vs Q E hr h => ?_)
  · obtain ⟨t, c, n, z, m, rfl, _⟩ := h
    rfl
  · obtain ⟨t, c, n, z, m, rfl, T, hn, al, m0, m1, k⟩ := h
    have hr1 : Room 1 _ := hr.mono (by decide)
    have zl : z.length = (tl z).length := (Array.length_toList).symm
    obtain ⟨pw, l1, l3, low⟩ := id al
    refine ⟨_, (pss_one (ps_ret (pe_join pe_str (pe_lc (own := [("_law_k", 3)]) (g := gName 3) rfl scWord.nd (pi_range1 rfl B.range (pa_cons (pe_call Gd hr1 (by rfl) Dd.g Dd.F.kp Dd.b .nil pass0 (pa_cons (pv 0) (pa_cons (pe_op op_add (pv 2) pe_int) pa_nil))) pa_nil)) (blkOk_by (N := ["_law_tape", "_law_alphabet_here", "_law_longest", "_law_k"]) (sc := defScope sWord) (by decide +kernel)) (fun _ _ _ _ _ => pg_name (i := 3) scWord.nd rfl (Or.inl rfl)) (fun _ _ _ _ _ => pts_nil) (fun _ _ _ _ _ => (pe_call Gp hr (by rfl) Dp.g Dp.F.kp Dp.b .nil pass0 (pa_cons (pv 0) (pa_cons (pv 1) pa_nil)))))))), ?_⟩
    refine ⟨⟨_, rfl⟩, .ref t, rfl, .int m, rfl, m, 1, rfl, rfl, t, c, m + 1, n, rfl, T, by omega, by omega, by omega, fun H1 r k1 T1 r0 r1 => ?_⟩
    refine ⟨r, rfl, by omega, by omega, fun D hD => ?_⟩
    have D1 := T1.ne1 hD
    have D2 := T1.ne2 hD
    have D0 := k1.gone hD
    refine lc_range (lo := 0) (n := r.toNat) (fun i H' => ∃ ds : List Nat, ds.length = i ∧ (∀ c ∈ ds, c ∈ tl z) ∧ H' D = some (.lst ((ds.map one).map V.str)) ∧ Kp t H H' ∧ Tape H' t c (n + 1 + i)) ?_ ?_ ?_
    · exact ⟨[], rfl, fun c hc => (nomatch hc), upd_same, k1.put D0 D1, T1.upd D1 D2⟩
    · rintro i G hi ⟨ds, dl, ov, gD, kG, TG⟩
      refine ⟨rfl, yes ?_⟩
      refine ⟨.ref t, rfl, .str z, rfl, t, c, _, .str z, rfl, TG, by omega, .inr ⟨z, rfl, by omega, by omega, fun H4 d k4 T4 hd => ?_⟩⟩
      have gD4 := k4.at gD (fun _ z => by cases z)
      refine ⟨_, gD4, ?_, ds ++ [d], by rw [List.length_append, dl]; rfl, fun c hc => ?_, ?_, (kG.trans k4).put D0 D1, T4.upd D1 D2⟩
      · rw [List.length_map, List.length_map, dl, sizeLine_eq]
        omega
      · rcases List.mem_append.mp hc with q | q
        · exact ov c q
        · rw [List.mem_singleton.mp q]
          exact hd
      · rw [upd_same, List.map_append, List.map_append]
        rfl
    · rintro G ⟨ds, dl, ov, gD, kG, TG⟩
      have ej : tl (Txt.join "" (ds.map one)) = ds := by rw [tl_cat, flat_ones]
      refine ⟨"", D, ds.map one, rfl, rfl, .inl (SqL.of gD), ?_, k _ _ kG (TG.mono (by omega)) (fun c hc => ov c (by rw [ej] at hc; exact hc)) (by rw [ej]; omega)⟩
      rw [sum_ones _ fun y hy => ?_, List.length_map]
      · show ds.length + ds.length * 0 ≤ 16777216
        omega
      · obtain ⟨u, _, e⟩ := List.mem_map.mp hy
        exact ⟨u, e.symm⟩
end
end DW
namespace DW
open PySem PySem.Spec PyProof.Rows L2 TL
set_option autoImplicit false
section
variable {P : Program} {w : World} {K : PySem.W.Frag} {mg : Str → Option Value} {base : Heap}
structure Ds (K : PySem.W.Frag) (mg : Str → Option Value) where
  p_swallows : Df K mg "swallows" sSwallows ["factor", "other"]
  p_covers : Df K mg "covers" sCovers ["factor", "other"]
  p_unfold : Df K mg "unfold" sUnfold ["product", "count"]
  p_behind : Df K mg "behind" sBehind ["product", "place"]
  p_place_behind : Df K mg "place_behind" sPlaceBehind ["product", "other", "start"]
  p_is_included : Df K mg "is_included" sIsIncluded ["product", "other"]
  p_subwords_product : Df K mg "subwords_product" sSubwordsProduct ["word"]
  p_accepts : Df K mg "accepts" sAccepts ["product", "word"]
  begin : Df K mg "_law_begin" sBegin ["_law_script"]
  draw : Df K mg "_law_draw" sDraw ["_law_tape", "_law_many"]
  pick : Df K mg "_law_pick" sPick ["_law_tape", "_law_items"]
  alphabet : Df K mg "_law_alphabet" sAlpha ["_law_tape"]
  factor : Df K mg "_law_factor" sFactor ["_law_tape", "_law_alphabet_here"]
  product : Df K mg "_law_product" sProduct ["_law_tape", "_law_alphabet_here", "_law_longest"]
  word : Df K mg "_law_word" sWord ["_law_tape", "_law_alphabet_here", "_law_longest"]
  words : Df K mg "_law_words" sLWords ["_law_alphabet_here", "_law_longest"]
  is_subword : Df K mg "_law_is_subword" sLIsSubword ["_law_word_here", "_law_other"]
  in_product : Df K mg "_law_in_product" sLInProduct ["_law_product_here", "_law_word_here"]
  same : Df K mg "_law_same" sLSame ["_law_found", "_law_due"]
  B : Bl mg
  b_all : mg "all" = none
  b_tuple : mg "tuple" = none
  b_list : mg "list" = none
def spLaw (K : PySem.W.Frag) : Sp := fun vs H Q _ => ∃ (a : Addr) (ns : List Int), vs = [.ref a] ∧ SqL K H a (ns.map V.int) ∧ ∀ H', Q (.bl true) H'
theorem scLaw : FnScope ["_law_script", "_law_tape", "_law_turn", "_law_alphabet_here", "_law_product_here", "_law_words_here", "_law_k", "_law_word_here", "_law_due", "_law_large", "_law_letter"] ["_law_script"] (defScope sLaw) := ⟨rfl, rfl, rfl, by decide +kernel, rfl, by decide +kernel, by decide +kernel⟩
theorem low_over {z u : Str} (al : Alph z) (h : OverW z u) : ∀ c ∈ tl u, c < 128 := fun c hc => by
  have := al.2.2.2 c (h c hc)
  omega
theorem over_unf {z : Str} {fs : List Fc} (ok : ∀ f ∈ fs, FOk z f) {m : Nat} {c : Nat} (hc : c ∈ unf fs m) : c ∈ tl z := by
  unfold unf at hc
  obtain ⟨l, hl, hc⟩ := List.mem_flatten.mp hc
  obtain ⟨f, hf, rfl⟩ := List.mem_map.mp hl
  refine (ok f hf).2.1.subset ?_
  unfold piece at hc
  by_cases e : f.1 = true
  · rw [if_pos e] at hc
    obtain ⟨l, hl, hc⟩ := List.mem_flatten.mp hc
    rw [List.eq_of_mem_replicate hl] at hc
    exact hc
  · rw [if_neg e] at hc
    exact hc
theorem unf_len2 {z : Str} (al : Alph z) {m : Nat} (hm : m ≤ 2) : ∀ fs : List Fc, (∀ f ∈ fs, FOk z f) → (unf fs m).length ≤ 6 * fs.length
  | [], _ => Nat.le_refl _
  | f :: r, h => by
    have ih := unf_len2 al hm r fun g hg => h g (List.mem_cons_of_mem _ hg)
    have h3 := fok_len al (h f List.mem_cons_self)
    have h1 : (piece m f).length ≤ 6 := by
      unfold piece
      by_cases e : f.1 = true
      · rw [if_pos e, List.length_flatten, List.map_replicate, List.sum_replicate_nat]
        exact Nat.le_trans (Nat.mul_le_mul hm h3) (by decide)
      · rw [if_neg e]
        exact Nat.le_trans h3 (by decide)
    have e : (unf (f :: r) m).length = (piece m f).length + (unf r m).length := by
      unfold unf
      rw [List.map_cons, List.flatten_cons, List.length_append]
    rw [List.length_cons, e]
    omega
theorem ok_law (D : Df K mg "law" sLaw ["_law_script"]) (S : Ds K mg) : FnOk P w K mg base CX0 6 D.f D.fd ["_law_script"] (spLaw K) := by
  have Gb : FnOk P w K mg base CX0 1 S.begin.f S.begin.fd ["_law_script"] (spBegin K) := ok_begin S.begin
  have Gd : FnOk P w K mg base CX0 1 S.draw.f S.draw.fd ["_law_tape", "_law_many"] spDraw := ok_draw S.draw S.B.len
  have Gp : FnOk P w K mg base CX0 2 S.pick.f S.pick.fd ["_law_tape", "_law_items"] (spPick K) := ok_pick S.pick S.draw S.B.len
  have Ga : FnOk P w K mg base CX0 3 S.alphabet.f S.alphabet.fd ["_law_tape"] spAlpha := ok_alpha S.alphabet S.draw S.pick S.B
  have Gr : FnOk P w K mg base CX0 4 S.product.f S.product.fd ["_law_tape", "_law_alphabet_here", "_law_longest"] (spProduct K) := ok_product S.product S.factor S.draw S.pick S.B S.b_tuple
  have Gu : FnOk P w K mg base CX0 1 S.p_unfold.f S.p_unfold.fd ["product", "count"] (spUnfold K) := ok_unfold S.p_unfold
  have Gc : FnOk P w K mg base CX0 5 S.p_accepts.f S.p_accepts.fd ["product", "word"] (spAcc K) := ok_acc S.p_accepts S.p_subwords_product ⟨S.p_is_included, S.p_place_behind, S.p_behind, S.p_covers, S.p_swallows⟩ S.b_tuple S.b_all S.B.len
  have Gn : FnOk P w K mg base CX0 1 S.in_product.f S.in_product.fd ["_law_product_here", "_law_word_here"] (spInP K) := ok_inp S.in_product S.B S.b_list
  have Gs : FnOk P w K mg base CX0 1 S.same.f S.same.fd ["_law_found", "_law_due"] spSame := ok_same S.same
  have Gw : FnOk P w K mg base CX0 1 S.words.f S.words.fd ["_law_alphabet_here", "_law_longest"] spWords := ok_words S.words S.B
  have Go : FnOk P w K mg base CX0 3 S.word.f S.word.fd ["_law_tape", "_law_alphabet_here", "_law_longest"] spWord := ok_word S.word S.draw S.pick S.B
  have Gl : FnOk P w K mg base CX0 1 S.is_subword.f S.is_subword.fd ["_law_word_here", "_law_other"] spSubL := ok_subl S.is_subword
  refine D.F.ok scLaw (fun vs H Q E h => ?_) (fun cdv A outer s H vs Q E hr h => ?_)
  · obtain ⟨a, ns, rfl, _⟩ := h
    rfl
  · obtain ⟨a, ns, rfl, hS, k⟩ := h
    have hr1 : Room 1 _ := hr.mono (by decide)
    have hr2 : Room 2 _ := hr.mono (by decide)
    have hr3 : Room 3 _ := hr.mono (by decide)
    have hr4 : Room 4 _ := hr.mono (by decide)
    refine ⟨_, PSs.nox (pss_cons (ps_set (i := 1) scLaw.nd rfl (.inr rfl) (pe_call Gb hr1 (by rfl) S.begin.g S.begin.F.kp S.begin.b .nil pass0 (pa_cons (pv 0) pa_nil))) (pss_cons (ps_for PassesOwn.never rfl (pi_range1 rfl S.B.range (pa_cons pe_int pa_nil)) (pg_name (i := 2) scLaw.nd rfl (.inl rfl)) (pss_cons (ps_set (i := 3) scLaw.nd rfl (.inl rfl) (pe_call Ga hr3 (by rfl) S.alphabet.g S.alphabet.F.kp S.alphabet.b .nil pass0 (pa_cons (pv 1) pa_nil))) (pss_cons (ps_set (i := 4) scLaw.nd rfl (.inl rfl) (pe_call Gr hr4 (by rfl) S.product.g S.product.F.kp S.product.b .nil pass0 (pa_cons (pv 1) (pa_cons (pv 3) (pa_cons (pe_call Gp hr2 (by rfl) S.pick.g S.pick.F.kp S.pick.b .nil pass0 (pa_cons (pv 1) (pa_cons (pe_lst (pa_cons pe_int (pa_cons pe_int (pa_cons pe_int pa_nil)))) pa_nil))) pa_nil))))) (pss_cons (ps_set (i := 5) scLaw.nd rfl (.inl rfl) (pe_call Gw hr1 (by rfl) S.words.g S.words.F.kp S.words.b .nil pass0 (pa_cons (pv 3) (pa_cons (pe_call Gp hr2 (by rfl) S.pick.g S.pick.F.kp S.pick.b .nil pass0 (pa_cons (pv 1) (pa_cons (pe_lst (pa_cons pe_int (pa_cons pe_int (pa_cons pe_int pa_nil)))) pa_nil))) pa_nil)))) (pss_cons (ps_for PassesOwn.never rfl (pi_range1 rfl S.B.range (pa_cons pe_int pa_nil)) (pg_name (i := 6) scLaw.nd rfl (.inl rfl)) (pss_cons (ps_set (i := 7) scLaw.nd rfl (.inl rfl) (pe_call Gu hr1 (by rfl) S.p_unfold.g S.p_unfold.F.kp S.p_unfold.b .nil pass0 (pa_cons (pv 4) (pa_cons (pe_call Gd hr1 (by rfl) S.draw.g S.draw.F.kp S.draw.b .nil pass0 (pa_cons (pv 1) (pa_cons pe_int pa_nil))) pa_nil)))) (pss_cons (ps_expr (pe_bm PySem.F.plainAttrs_list PySem.F.slot_list_append PySem.F.type_list_append mt_append (pv 5) (pa_cons (pe_join pe_str (pe_lc (own := [("_law_letter", 10)]) (g := gName 10) rfl scLaw.nd (pi_str (pv 7)) (blkOk_by (N := ["_law_script", "_law_tape", "_law_turn", "_law_alphabet_here", "_law_product_here", "_law_words_here", "_law_k", "_law_word_here", "_law_due", "_law_large", "_law_letter"]) (sc := defScope sLaw) (by decide +kernel)) (fun _ _ _ _ _ => pg_name (i := 10) scLaw.nd rfl (Or.inl rfl)) (fun _ _ _ _ _ => (pts_one (pt_cmpR op_gt (pe_call Gd hr1 (by rfl) S.draw.g S.draw.F.kp S.draw.b .nil pass0 (pa_cons (pv 1) (pa_cons pe_int pa_nil))) pe_int (nomark _)))) (fun _ _ _ _ _ => (pv 10)))) pa_nil))) (pss_cons (ps_expr (pe_bm PySem.F.plainAttrs_list PySem.F.slot_list_append PySem.F.type_list_append mt_append (pv 5) (pa_cons (pe_op op_add_str (pv 7) (pe_call Gp hr2 (by rfl) S.pick.g S.pick.F.kp S.pick.b .nil pass0 (pa_cons (pv 1) (pa_cons (pv 3) pa_nil)))) pa_nil))) (pss_one (ps_expr (pe_bm PySem.F.plainAttrs_list PySem.F.slot_list_append PySem.F.type_list_append mt_append (pv 5) (pa_cons (pe_call Go hr3 (by rfl) S.word.g S.word.F.kp S.word.b .nil pass0 (pa_cons (pv 1) (pa_cons (pv 3) (pa_cons pe_int pa_nil)))) pa_nil)))))))) (pss_one (ps_for PassesOwn.never rfl (pi_list (pv 5)) (pg_name (i := 7) scLaw.nd rfl (.inl rfl)) (pss_cons (ps_set (i := 8) scLaw.nd rfl (.inl rfl) (pe_call Gn hr1 (by rfl) S.in_product.g S.in_product.F.kp S.in_product.b .nil pass0 (pa_cons (pv 4) (pa_cons (pv 7) pa_nil)))) (pss_cons (ps_if (pt_not (pt_val (pe_call Gs hr1 (by rfl) S.same.g S.same.F.kp S.same.b .nil pass0 (pa_cons (pe_call Gc hr (by rfl) S.p_accepts.g S.p_accepts.F.kp S.p_accepts.b .nil pass0 (pa_cons (pv 4) (pa_cons (pv 7) pa_nil))) (pa_cons (pv 8) pa_nil))))) (pss_one (ps_ret pe_bl)) pss_nil) (pss_cons (ps_set (i := 9) scLaw.nd rfl (.inl rfl) (pe_call Gu hr1 (by rfl) S.p_unfold.g S.p_unfold.F.kp S.p_unfold.b .nil pass0 (pa_cons (pv 4) (pa_cons (pe_callB call_len_str (by rfl) S.B.len PySem.boot_len (pa_cons (pv 7) pa_nil)) pa_nil)))) (pss_one (ps_if (pw_and (pt_cmpR op_lt (pe_callB call_len_str (by rfl) S.B.len PySem.boot_len (pa_cons (pv 7) pa_nil)) pe_int (nomark _)) (pw_and1 (pt_cmpR op_ne (pe_call Gl hr1 (by rfl) S.is_subword.g S.is_subword.F.kp S.is_subword.b .nil pass0 (pa_cons (pv 7) (pa_cons (pv 9) pa_nil))) (pv 8) (nomark _)))).pt (pss_one (ps_ret pe_bl)) pss_nil)))))))))))) (pss_one (ps_ret pe_bl)))), ?_⟩
    refine ⟨.ref a, rfl, a, ns, rfl, hS, fun H0 t c s0 ht hc T0 => ?_⟩
    refine ⟨3, rfl, by decide, by decide, for_it walk_range (fun i σ H' => ∃ y2 y3 y4 y5 y6 y7 y8 y9, σ = [some (.ref a), some (.ref t), y2, y3, y4, y5, y6, y7, y8, y9, none] ∧ Tape H' t c (10000 * i)) ⟨_, _, _, _, _, _, _, _, rfl, T0⟩ (fun _ _ _ _ _ => trivial) ?_ ?_⟩
    · rintro i x σ G G' hi ⟨y2, y3, y4, y5, y6, y7, y8, y9, rfl, T⟩ ⟨rfl, rfl⟩
      refine ⟨.ref t, rfl, t, c, 10000 * i, rfl, T, by omega, fun H1 z k1 T1 al => ?_⟩
      have zl : z.length = (tl z).length := (Array.length_toList).symm
      have z1 := al.2.1
      have z3 := al.2.2.1
      refine ⟨.ref t, rfl, .str z, rfl, .ref t, rfl, by show 3 ≤ sizeLine; decide, fun l1 e1 => ?_⟩
      have s1 := same_upd (o := .lst [V.int 2, V.int 4, V.int 7]) e1
      refine ⟨t, c, _, .ref l1, rfl, T1.same s1, by omega, .inl ⟨l1, _, rfl, SqL.of upd_same, by simp, by show 3 < 2 ^ 30; decide, fun H2 y k2 T2 hy => ?_⟩⟩
      obtain ⟨m, rfl, m0, m1⟩ : ∃ m : Int, y = .int m ∧ 0 ≤ m ∧ m ≤ 7 := by
        simp only [List.mem_cons, List.not_mem_nil, or_false] at hy
        rcases hy with e | e | e
        · exact ⟨2, e, by decide, by decide⟩
        · exact ⟨4, e, by decide, by decide⟩
        · exact ⟨7, e, by decide, by decide⟩
      refine ⟨t, c, _, z, m, rfl, T2, by omega, al, m0, by omega, fun H3 v1 p1 k3 T3 isp1 ok1 len1 => ?_⟩
      have w1 := fok_w1 ok1
      have lw1 : ∀ f ∈ p1, Low f := fun f hf => fok_low al (ok1 f hf)
      have l31 : ∀ f ∈ p1, (tl f.2).length ≤ 3 := fun f hf => fok_len al (ok1 f hf)
      refine ⟨.str z, rfl, .ref t, rfl, by show 3 ≤ sizeLine; decide, fun l2 e2 => ?_⟩
      have s2 := same_upd (o := .lst [V.int 2, V.int 3, V.int 4]) e2
      refine ⟨t, c, _, .ref l2, rfl, T3.same s2, by omega, .inl ⟨l2, _, rfl, SqL.of upd_same, by simp, by show 3 < 2 ^ 30; decide, fun H4 y k4 T4 hy => ?_⟩⟩
      obtain ⟨q, rfl, q0, q1⟩ : ∃ m : Int, y = .int m ∧ 0 ≤ m ∧ m ≤ 4 := by
        simp only [List.mem_cons, List.not_mem_nil, or_false] at hy
        rcases hy with e | e | e
        · exact ⟨2, e, by decide, by decide⟩
        · exact ⟨3, e, by decide, by decide⟩
        · exact ⟨4, e, by decide, by decide⟩
      have isp4 : IsP K H4 v1 p1 := (isp1.mono (same_tup s2)).mono (kp_tup k4)
      refine ⟨z, q, rfl, al, q0, q1, fun H5 lw ws s5 lw0 hlw hws wl => ?_⟩
      have T5 := T4.same s5
      have isp5 := isp4.mono (same_tup s5)
      have nw1 : lw ≠ t := fun e => by
        obtain ⟨kvs, z⟩ := T5.dk
        rw [← e, hlw] at z
        cases z
      have nw2 : lw ≠ c := fun e => by
        obtain ⟨cells, p, l, _, z, _⟩ := T4.ex
        rw [← e, lw0] at z
        cases z
      have UOk : ∀ u : Str, (tl u).length ≤ 100 ∧ OverW z u → True := fun _ _ => trivial
      refine ⟨4, rfl, by decide, by decide, for_it walk_range (fun j σ H' => ∃ (us : List Str) (y6 y7 : Option V) (y8 y9 : Option V), σ = [some (.ref a), some (.ref t), some (.int (0 + (i : Int))), some (.str z), some v1, some (.ref lw), y6, y7, y8, y9, none] ∧ H' lw = some (.lst (us.map V.str)) ∧ (∀ u ∈ us, (tl u).length ≤ 100 ∧ OverW z u) ∧ us.length ≤ 200 + 3 * j ∧ IsP K H' v1 p1 ∧ Tape H' t c (10000 * i + 2500 + 500 * j))
        ⟨ws, _, _, _, _, rfl, hlw, fun u hu => ⟨Nat.le_trans (hws u hu).1 (by decide), (hws u hu).2⟩, by omega, isp5, T5.mono (by omega)⟩ (fun _ _ _ _ _ => trivial) ?_ ?_⟩
      · rintro j x σ M M' hj ⟨us, y6, y7, y8, y9, rfl, mw, hus, ul, ispM, TM⟩ ⟨rfl, rfl⟩
        refine ⟨v1, rfl, .ref t, rfl, t, c, 3, _, rfl, TM, by omega, by decide, by decide, fun M1 r kM1 TM1 r0 r1 => ?_⟩
        have isp6 := ispM.mono (kp_tup kM1)
        refine ⟨v1, p1, r, rfl, isp6, l31, by omega, r0, by omega, fun M2 u sM2 hu => ?_⟩
        have mw2 := sM2 _ _ (kM1.at mw fun _ z => by cases z)
        have TM2 := TM1.same sM2
        have isp7 := isp6.mono (same_tup sM2)
        have ulen : (tl u).length ≤ 42 := by
          rw [hu]
          have := unf_len2 al (m := r.toNat) (by omega) p1 ok1
          omega
        have uov : OverW z u := fun c hc => over_unf ok1 (m := r.toNat) (by rw [← hu]; exact hc)
        have us2 : u.cps.size = (tl u).length := (Array.length_toList).symm
        refine ⟨.ref lw, rfl, .inl ⟨rfl, _, SqL.of mw2⟩, ⟨_, rfl⟩, .str u, rfl, u, rfl, fun D hD => ?_⟩
        have D1 := TM2.ne1 hD
        have D2 := TM2.ne2 hD
        have nD : lw ≠ D := ne_of_none mw2 hD
        refine lc_it walk_str (fun n H' => ∃ ds : List Nat, ds.Sublist ((tl u).take n) ∧ H' D = some (.lst ((ds.map one).map V.str)) ∧ H' lw = some (.lst (us.map V.str)) ∧ Kp t M2 H' ∧ Tape H' t c (10000 * i + 2500 + 500 * j + 1 + n)) ?_ (fun _ _ _ _ => trivial) ?_ ?_
        · exact ⟨[], List.nil_sublist _, upd_same, (upd_ne nD).trans mw2, (Kp.refl TM2).put hD D1, TM2.upd D1 D2⟩
        · rintro n x N1 N2 hn ⟨ds, sub, gD, gw, kN, TN⟩ ⟨rfl, dd, hd, rfl⟩
          have hd' : (tl u)[n]? = some dd := by rw [Array.getElem?_toList]; exact hd
          have tk : (tl u).take (n + 1) = (tl u).take n ++ [dd] := by rw [List.take_add_one, hd'] <;> rfl
          have dl : ds.length ≤ 42 := Nat.le_trans (Nat.le_trans sub.length_le (List.length_take_le' ..)) ulen
          refine ⟨rfl, .ref t, rfl, t, c, 4, _, rfl, TN, by omega, by decide, by decide, fun N3 qq kN3 TN3 qq0 qq1 => ?_⟩
          have gD4 := kN3.at gD (fun _ z => by cases z)
          have gw4 := kN3.at gw (fun _ z => by cases z)
          refine ⟨_, _, rfl, rfl, _, rfl, ite2 (fun e2 => ?_) (fun e2 => ?_)⟩
          · refine ⟨_, rfl, _, gD4, ?_, ds ++ [dd], ?_, ?_, (upd_ne nD).trans gw4, (kN.trans kN3).put hD D1, TN3.upd D1 D2⟩
            · rw [List.length_map, List.length_map, sizeLine_eq]
              omega
            · rw [tk]
              exact sub.append (List.Sublist.refl _)
            · rw [upd_same, List.map_append, List.map_append]
              rfl
          · refine ⟨ds, ?_, gD4, gw4, kN.trans kN3, TN3⟩
            rw [tk]
            exact sub.trans (List.sublist_append_left _ _)
        · rintro N1 ⟨ds, sub, gD, gw, kN, TN⟩
          have sub' : ds.Sublist (tl u) := sub.trans (List.take_sublist _ _)
          have dl : ds.length ≤ 42 := Nat.le_trans sub'.length_le ulen
          have ej : tl (Txt.join "" (ds.map one)) = ds := by rw [tl_cat, flat_ones]
          refine ⟨"", D, ds.map one, rfl, rfl, .inl (SqL.of gD), ?_, ?_⟩
          · rw [sum_ones _ fun y hy => ?_, List.length_map]
            · show ds.length + ds.length * 0 ≤ 16777216
              omega
            · obtain ⟨u, _, e⟩ := List.mem_map.mp hy
              exact ⟨u, e.symm⟩
          generalize hJ : Txt.join "" (ds.map one) = J at ej ⊢
          have hsz : ∀ n, n ≤ 300 → n < sizeLine := fun n h => by rw [sizeLine_eq]; omega
          refine ⟨lw, _, _, rfl, rfl, gw, by rw [List.length_map]; exact hsz _ (by omega), ?_⟩
          have isp8 := (isp7.mono (kp_tup kN)).mono (upd_tup (o := .lst (us.map V.str ++ [V.str J])) gw)
          have TN1 := TN.upd (o := .lst (us.map V.str ++ [V.str J])) nw1 nw2
          refine ⟨.ref lw, rfl, .inl ⟨rfl, _, SqL.of upd_same⟩, .str u, rfl, .ref t, rfl, .str z, rfl, t, c, _, .str z, rfl, TN1, by omega, .inr ⟨z, rfl, by omega, by omega, fun N2 e kN2 TN2 he => ?_⟩⟩
          have gw2 := kN2.at (upd_same (H := N1) (a := lw) (o := .lst (us.map V.str ++ [V.str J]))) (fun _ z => by cases z)
          refine ⟨u, ⟨#[e]⟩, rfl, rfl, ?_, lw, _, _, rfl, rfl, gw2, by rw [List.length_append, List.length_map]; exact hsz _ (by show _ + 1 ≤ _; omega), ?_⟩
          · have : u.length = (tl u).length := (Array.length_toList).symm
            rw [this, sizeLine_eq]
            show _ + 1 ≤ _
            omega
          have isp9 := (isp8.mono (kp_tup kN2)).mono (upd_tup (o := .lst (us.map V.str ++ [V.str J] ++ [V.str (u ++ (⟨#[e]⟩ : Str))])) gw2)
          have TN3 := TN2.upd (o := .lst (us.map V.str ++ [V.str J] ++ [V.str (u ++ (⟨#[e]⟩ : Str))])) nw1 nw2
          refine ⟨.ref lw, rfl, .inl ⟨rfl, _, SqL.of upd_same⟩, .ref t, rfl, .str z, rfl, t, c, _, z, 9, rfl, TN3, by omega, al, by decide, by decide, fun N4 wd kN4 TN4 wov wdl => ?_⟩
          have gw4 := kN4.at (upd_same (H := N2) (a := lw) (o := .lst (us.map V.str ++ [V.str J] ++ [V.str (u ++ (⟨#[e]⟩ : Str))]))) (fun _ z => by cases z)
          refine ⟨lw, _, _, rfl, rfl, gw4, by rw [List.length_append, List.length_append, List.length_map]; exact hsz _ (by show _ + 1 + 1 ≤ _; omega), ?_⟩
          refine ⟨us ++ [J] ++ [u ++ (⟨#[e]⟩ : Str)] ++ [wd], _, _, _, _, rfl, by rw [upd_same]; simp, fun x hx => ?_, by simp; omega, (isp9.mono (kp_tup kN4)).mono (upd_tup gw4), (TN4.upd nw1 nw2).mono (by omega)⟩
          rcases List.mem_append.mp hx with hx | hx
          · rcases List.mem_append.mp hx with hx | hx
            · rcases List.mem_append.mp hx with hx | hx
              · exact hus x hx
              · rw [List.mem_singleton.mp hx, OverW, ej]
                exact ⟨by omega, fun c hc => uov c (sub'.subset hc)⟩
            · rw [List.mem_singleton.mp hx]
              refine ⟨by rw [tl_app, List.length_append]; show _ + 1 ≤ _; omega, fun c hc => ?_⟩
              rw [tl_app] at hc
              rcases List.mem_append.mp hc with q | q
              · exact uov c q
              · rw [List.mem_singleton.mp q]
                exact he
          · rw [List.mem_singleton.mp hx]
            exact ⟨by omega, wov⟩
      · rintro σ M ⟨us, y6, y7, y8, y9, rfl, mw, hus, ul, ispM, TM⟩
        refine ⟨.ref lw, rfl, lw, rfl, ⟨_, SqL.of mw⟩, for_it (walk_list (xs := us.map V.str)) (fun n σ H' => ∃ y6 y7 y8 y9, σ = [some (.ref a), some (.ref t), some (.int (0 + (i : Int))), some (.str z), some v1, some (.ref lw), y6, y7, y8, y9, none] ∧ Same M H') ⟨_, _, _, _, rfl, Same.refl _⟩ (fun _ _ _ _ ⟨_, _, _, _, _, sm⟩ => SqL.of (sm _ _ mw)) ?_ ?_⟩
        · rintro n x σ N N' hn ⟨y6, y7, y8, y9, rfl, sN⟩ ⟨rfl, hx⟩
          obtain ⟨u, hu, rfl⟩ : ∃ u, us[n]? = some u ∧ x = V.str u := by
            rw [List.getElem?_map] at hx
            cases q : us[n]? with
            | none => rw [q] at hx; cases hx
            | some u => rw [q] at hx; exact ⟨u, rfl, (Option.some.inj hx).symm⟩
          have um := hus u (List.mem_of_getElem? hu)
          have ulow := low_over al um.2
          have usz : u.length = (tl u).length := (Array.length_toList).symm
          have ispN := ispM.mono (same_tup sN)
          refine ⟨v1, rfl, .str u, rfl, v1, p1, u, rfl, ispN, by omega, fun N1 due sN1 hdue => ?_⟩
          refine ⟨v1, rfl, .str u, rfl, v1, p1, u, rfl, ispN.mono (same_tup sN1), w1, lw1, by omega, ulow, fun N2 b sN2 hb => ?_⟩
          have eb : b = due := by
            rw [Bool.eq_iff_iff, hb, hdue]
          refine ⟨.bl due, rfl, b, due, rfl, _, rfl, ?_⟩
          rw [eb, show decide (due = due) = true from decide_eq_true rfl]
          refine iteF ?_
          have ispN2 := (ispN.mono (same_tup sN1)).mono (same_tup sN2)
          refine ⟨v1, rfl, .str u, rfl, u, rfl, by rw [usz, sizeLine_eq]; omega, v1, p1, _, rfl, ispN2, l31, by omega, by omega, by omega, fun N3 g sN3 hg => ?_⟩
          have hg' : tl g = unf p1 (tl u).length := by
            rw [hg, usz]
            rfl
          have sa := ((sN.trans sN1).trans sN2).trans sN3
          refine ⟨.str u, rfl, u, rfl, by rw [usz, sizeLine_eq]; omega, _, 6, rfl, rfl, _, rfl, ite2 (fun e => ?_) (fun e => ?_)⟩
          · refine ⟨.str u, rfl, .str g, rfl, u, g, rfl, by omega, fun b2 hb2 => ?_⟩
            rw [hg', sub_unf_iff w1 (Nat.le_refl _), ← hdue, ← Bool.eq_iff_iff] at hb2
            rw [hb2]
            refine ⟨.bl due, rfl, rfl, _, rfl, ?_⟩
            rw [show (!decide (V.bl due = V.bl due)) = false by simp]
            exact iteF ⟨_, _, _, _, rfl, sa⟩
          · exact iteF ⟨_, _, _, _, rfl, sa⟩
        · rintro σ N ⟨y6, y7, y8, y9, rfl, sN⟩
          exact ⟨_, _, _, _, _, _, _, _, rfl, (TM.same sN).mono (by omega)⟩
    · rintro σ H' ⟨y2, y3, y4, y5, y6, y7, y8, y9, rfl, T⟩
      exact k _
end
end DW
set_option maxHeartbeats 0
namespace DW
open PySem PySem.Spec PyProof.Rows L2
def mkD (x : Str) (st : Stmt) : He.DefD := ⟨(x, none), x, x, defArgs st, defBody st, defScope st, [], []⟩
def fn : List He.DefD := [mkD "law" sLaw, mkD "swallows" sSwallows, mkD "covers" sCovers, mkD "unfold" sUnfold, mkD "behind" sBehind, mkD "place_behind" sPlaceBehind, mkD "is_included" sIsIncluded, mkD "subwords_product" sSubwordsProduct, mkD "accepts" sAccepts, mkD "_law_begin" sBegin, mkD "_law_draw" sDraw, mkD "_law_pick" sPick, mkD "_law_alphabet" sAlpha, mkD "_law_factor" sFactor, mkD "_law_product" sProduct, mkD "_law_word" sWord, mkD "_law_words" sLWords, mkD "_law_is_subword" sLIsSubword, mkD "_law_in_product" sLInProduct, mkD "_law_same" sLSame]
def fa : List He.Fa := [.glo "law", .glo "swallows", .glo "covers", .glo "unfold", .glo "behind", .glo "place_behind", .glo "is_included", .glo "subwords_product", .glo "accepts", .glo "_law_begin", .glo "_law_draw", .glo "_law_pick", .glo "_law_alphabet", .glo "_law_factor", .glo "_law_product", .glo "_law_word", .glo "_law_words", .glo "_law_is_subword", .glo "_law_in_product", .glo "_law_same", .free "all", .free "len", .free "tuple", .free "range", .free "list", .free "sorted", .free "set"]
abbrev R : PySem.W.OpenRow := PySem.W.OpenLaw.row PySem.Challenge.rw_downwords_k07_whole_words_of_a_product
abbrev hk : PySem.W.Hook := He.hookD 4 fa fn
def ob (s : PySem.W.SharedT) : He.AlD := He.obsDG 4 fa fn (HandSHeadRun.getT s)
theorem ob_eq (s : PySem.W.SharedT) : ob s = hk.obs s.abs := He.obsDG_eq (HandSHeadRun.getT_eq s)
abbrev names : List Str := ["__name__", "swallows", "covers", "unfold", "behind", "place_behind", "is_included", "subwords_product", "accepts", "_law_begin", "_law_draw", "_law_pick", "_law_alphabet", "_law_factor", "_law_product", "_law_word", "_law_words", "_law_is_subword", "_law_in_product", "_law_same"]
theorem run (w : World) : HandSHeadRun.RunEq R (PySem.W.view R.prog [21]) hk ob 4000 names w := by
  intro os
  kernel_rfl
theorem df {K : PySem.W.Frag} {h : Heap} {mg : Str → Option Value} {x : Str} {st : Stmt} {ps : List Str} (X : K.In h) (G : h.Ns mainGlobals mg) (hf : ∃ fd, FunD K x x (defArgs st) (defBody st) (defScope st) [] [] (He.fAd K (x, none)) fd) (hg : (He.Fa.glo x).ok K = true)
    (b : ∀ (kV doc pm : Value) (an : Option Addr) (cdv ct : Value) (us : List Value), us.length = ps.length → bindArgs (PySem.W.fnOf x x (defArgs st) (defBody st) (defScope st) .none kV doc pm an cdv ct) ⟨us, []⟩ = pure (ps.zip us)) :
    ∃ D : Df K mg x st ps, D.f = He.fAd K (x, none) := by
  obtain ⟨fd, F⟩ := hf
  exact ⟨⟨He.fAd K (x, none), fd, F, He.glo_ok X G hg, F.bindsN b⟩, rfl⟩
theorem facts {P : Program} {w : World} {K : PySem.W.Frag} {h : Heap} {mg : Str → Option Value} {f : Addr} (X : K.In h) (G : h.Ns mainGlobals mg) (hfa : mg ("law" : Str) = some (.ref f)) (c : He.SaysD fa fn K) :
    ∃ fd : FuncData, (∀ (s : Shared) (v : Value), BindsTo s fd ⟨[v], []⟩ [("_law_script", v)]) ∧ ∀ base : Heap, K.In base → base.Ns mainGlobals mg → FnOk P w K mg base CX0 6 f fd ["_law_script"] (spLaw K) := by
  have e := hfa.symm.trans (He.glo_ok X G (c.fact 0 (f := .glo "law") rfl))
  cases e
  obtain ⟨D0, e0⟩ := df (st := sLaw) (ps := ["_law_script"]) X G (c.def_ 0 (d := mkD "law" sLaw) rfl) (c.fact 0 (f := .glo "law") rfl) fun _ _ _ _ _ _ us hl => match us, hl with | [_], _ => rfl
  obtain ⟨D1, e1⟩ := df (st := sSwallows) (ps := ["factor", "other"]) X G (c.def_ 1 (d := mkD "swallows" sSwallows) rfl) (c.fact 1 (f := .glo "swallows") rfl) fun _ _ _ _ _ _ us hl => match us, hl with | [_, _], _ => rfl
  obtain ⟨D2, e2⟩ := df (st := sCovers) (ps := ["factor", "other"]) X G (c.def_ 2 (d := mkD "covers" sCovers) rfl) (c.fact 2 (f := .glo "covers") rfl) fun _ _ _ _ _ _ us hl => match us, hl with | [_, _], _ => rfl
  obtain ⟨D3, e3⟩ := df (st := sUnfold) (ps := ["product", "count"]) X G (c.def_ 3 (d := mkD "unfold" sUnfold) rfl) (c.fact 3 (f := .glo "unfold") rfl) fun _ _ _ _ _ _ us hl => match us, hl with | [_, _], _ => rfl
  obtain ⟨D4, e4⟩ := df (st := sBehind) (ps := ["product", "place"]) X G (c.def_ 4 (d := mkD "behind" sBehind) rfl) (c.fact 4 (f := .glo "behind") rfl) fun _ _ _ _ _ _ us hl => match us, hl with | [_, _], _ => rfl
  obtain ⟨D5, e5⟩ := df (st := sPlaceBehind) (ps := ["product", "other", "start"]) X G (c.def_ 5 (d := mkD "place_behind" sPlaceBehind) rfl) (c.fact 5 (f := .glo "place_behind") rfl) fun _ _ _ _ _ _ us hl => match us, hl with | [_, _, _], _ => rfl
  obtain ⟨D6, e6⟩ := df (st := sIsIncluded) (ps := ["product", "other"]) X G (c.def_ 6 (d := mkD "is_included" sIsIncluded) rfl) (c.fact 6 (f := .glo "is_included") rfl) fun _ _ _ _ _ _ us hl => match us, hl with | [_, _], _ => rfl
  obtain ⟨D7, e7⟩ := df (st := sSubwordsProduct) (ps := ["word"]) X G (c.def_ 7 (d := mkD "subwords_product" sSubwordsProduct) rfl) (c.fact 7 (f := .glo "subwords_product") rfl) fun _ _ _ _ _ _ us hl => match us, hl with | [_], _ => rfl
  obtain ⟨D8, e8⟩ := df (st := sAccepts) (ps := ["product", "word"]) X G (c.def_ 8 (d := mkD "accepts" sAccepts) rfl) (c.fact 8 (f := .glo "accepts") rfl) fun _ _ _ _ _ _ us hl => match us, hl with | [_, _], _ => rfl
  obtain ⟨D9, e9⟩ := df (st := sBegin) (ps := ["_law_script"]) X G (c.def_ 9 (d := mkD "_law_begin" sBegin) rfl) (c.fact 9 (f := .glo "_law_begin") rfl) fun _ _ _ _ _ _ us hl => match us, hl with | [_], _ => rfl
  obtain ⟨D10, e10⟩ := df (st := sDraw) (ps := ["_law_tape", "_law_many"]) X G (c.def_ 10 (d := mkD "_law_draw" sDraw) rfl) (c.fact 10 (f := .glo "_law_draw") rfl) fun _ _ _ _ _ _ us hl => match us, hl with | [_, _], _ => rfl
  obtain ⟨D11, e11⟩ := df (st := sPick) (ps := ["_law_tape", "_law_items"]) X G (c.def_ 11 (d := mkD "_law_pick" sPick) rfl) (c.fact 11 (f := .glo "_law_pick") rfl) fun _ _ _ _ _ _ us hl => match us, hl with | [_, _], _ => rfl
  obtain ⟨D12, e12⟩ := df (st := sAlpha) (ps := ["_law_tape"]) X G (c.def_ 12 (d := mkD "_law_alphabet" sAlpha) rfl) (c.fact 12 (f := .glo "_law_alphabet") rfl) fun _ _ _ _ _ _ us hl => match us, hl with | [_], _ => rfl
  obtain ⟨D13, e13⟩ := df (st := sFactor) (ps := ["_law_tape", "_law_alphabet_here"]) X G (c.def_ 13 (d := mkD "_law_factor" sFactor) rfl) (c.fact 13 (f := .glo "_law_factor") rfl) fun _ _ _ _ _ _ us hl => match us, hl with | [_, _], _ => rfl
  obtain ⟨D14, e14⟩ := df (st := sProduct) (ps := ["_law_tape", "_law_alphabet_here", "_law_longest"]) X G (c.def_ 14 (d := mkD "_law_product" sProduct) rfl) (c.fact 14 (f := .glo "_law_product") rfl) fun _ _ _ _ _ _ us hl => match us, hl with | [_, _, _], _ => rfl
  obtain ⟨D15, e15⟩ := df (st := sWord) (ps := ["_law_tape", "_law_alphabet_here", "_law_longest"]) X G (c.def_ 15 (d := mkD "_law_word" sWord) rfl) (c.fact 15 (f := .glo "_law_word") rfl) fun _ _ _ _ _ _ us hl => match us, hl with | [_, _, _], _ => rfl
  obtain ⟨D16, e16⟩ := df (st := sLWords) (ps := ["_law_alphabet_here", "_law_longest"]) X G (c.def_ 16 (d := mkD "_law_words" sLWords) rfl) (c.fact 16 (f := .glo "_law_words") rfl) fun _ _ _ _ _ _ us hl => match us, hl with | [_, _], _ => rfl
  obtain ⟨D17, e17⟩ := df (st := sLIsSubword) (ps := ["_law_word_here", "_law_other"]) X G (c.def_ 17 (d := mkD "_law_is_subword" sLIsSubword) rfl) (c.fact 17 (f := .glo "_law_is_subword") rfl) fun _ _ _ _ _ _ us hl => match us, hl with | [_, _], _ => rfl
  obtain ⟨D18, e18⟩ := df (st := sLInProduct) (ps := ["_law_product_here", "_law_word_here"]) X G (c.def_ 18 (d := mkD "_law_in_product" sLInProduct) rfl) (c.fact 18 (f := .glo "_law_in_product") rfl) fun _ _ _ _ _ _ us hl => match us, hl with | [_, _], _ => rfl
  obtain ⟨D19, e19⟩ := df (st := sLSame) (ps := ["_law_found", "_law_due"]) X G (c.def_ 19 (d := mkD "_law_same" sLSame) rfl) (c.fact 19 (f := .glo "_law_same") rfl) fun _ _ _ _ _ _ us hl => match us, hl with | [_, _], _ => rfl
  have b := FunD.bindsA (ps := ["_law_script"]) D0.F fun _ _ _ _ _ _ us hl => match us, hl with | [_], _ => rfl
  refine ⟨D0.fd, fun s v => b s [v] rfl, fun base _ _ => ?_⟩
  have q := ok_law (P := P) (w := w) (base := base) D0 ⟨D1, D2, D3, D4, D5, D6, D7, D8, D9, D10, D11, D12, D13, D14, D15, D16, D17, D18, D19, ⟨He.free_ok X G (c.fact 21 (f := .free "len") rfl), He.free_ok X G (c.fact 23 (f := .free "range") rfl), He.free_ok X G (c.fact 25 (f := .free "sorted") rfl), He.free_ok X G (c.fact 26 (f := .free "set") rfl)⟩, He.free_ok X G (c.fact 20 (f := .free "all") rfl), He.free_ok X G (c.fact 22 (f := .free "tuple") rfl), He.free_ok X G (c.fact 24 (f := .free "list") rfl)⟩
  rw [e0] at q
  exact q
end DW
open PySem PySem.W PySem.Calls PyProof.Rows
theorem PySem.Challenge.cw_downwords_k07_whole_words_of_a_product_holds : PySem.Challenge.rw_downwords_k07_whole_words_of_a_product.Holds := by
  w_on; o_law
  refine HandSHeadRun.head_any (r := OpenLaw.row PySem.Challenge.rw_downwords_k07_whole_words_of_a_product) (q := view (OpenLaw.row PySem.Challenge.rw_downwords_k07_whole_words_of_a_product).prog [21]) (H := DW.hk) (ob := DW.ob) (M := 4000) (loose := DW.names) (d := HandSHeadRun.topDef (OpenLaw.row PySem.Challenge.rw_downwords_k07_whole_words_of_a_product).prog 21) (kwd := []) DW.ob_eq
    (by kernel_rfl) (fun s => by kernel_rfl) DW.run (by kernel_rfl) (by kernel_rfl) (by kernel_rfl) (by rfl) (by first | assumption | decide +kernel) (by decide +kernel) ⟨rfl, rfl, rfl, rfl, rfl, by decide +kernel⟩ ?hw ?hc
  case hw => w_witness2
  case hc =>
    refine L2.walk_ofE (l := PySem.Challenge.rw_downwords_k07_whole_words_of_a_product) (n := 63) (k := 6) (x := "_law_script") (CX := L2.CX0) rfl (by decide) (by kernel_rfl) ⟨rfl, by decide, by decide⟩ ?F (fun _ _ _ _ z => z)
    intro w mg fa h Y G hmg0
    obtain ⟨K, KX, c⟩ := Y
    have hmg : mg ("law" : PySem.Str) = some (.ref fa) := by
      have e : (HandSHeadRun.topDef (OpenLaw.row PySem.Challenge.rw_downwords_k07_whole_words_of_a_product).prog 21).name = ("law" : PySem.Str) := by kernel_rfl
      rw [← e]
      exact hmg0
    obtain ⟨fd, hb, hF⟩ := DW.facts (P := (PySem.Challenge.rw_downwords_k07_whole_words_of_a_product).prog) (w := w) KX G hmg c
    exact ⟨K, fd, DW.spLaw K, KX, hb, fun H a ns hl _ hS => ⟨a, ns, rfl, hS, fun _ => rfl⟩, hF⟩
