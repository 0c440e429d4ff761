import PyProof.Rows.All
import Wide.All
import OpenK.AllK
import Wide.FinOn
import HandS.List
import HandS.SetTxt0
import HandS.SetFor
import HandS.Strs
import HandS.Iter
import HandS.Walk
import KE.GoesMore
import KE.GoesZip
import HandS.Text
import PyProof.ListStr
import KE.KRevSl
import HandS.ForMost
import HandS.Defaults
import HandS.HeadEnd
import HandS.Flow
import HandS.Small
import HandS.Codes
import HandS.WordsExc
import HandS.RaiseMore
import HandS.Conv
import HandS.Style
import HandS.IsInst
import HandS.NoneIn
import HandS.TupAny
import KE.KStateDown
import Lean
import HandS.More
import HandS.Head0
import HandS.Head1
import HandS.Head2
import HandS.HeadHook1
import HandS.HeadHook2
import PySem.Challenge.RW_downwords_k05_products_or_not
set_option Elab.async false
set_option linter.all false
set_option maxRecDepth 100000
set_option maxHeartbeats 2000000
/-! Sets of texts: set(list of texts), set(text), sorted(set). -/
namespace TX
open PySem PySem.Spec PyProof.Rows L2 PySem.Froz

/-! ### lists -/
theorem perm_of_sub {α : Type} [DecidableEq α] : ∀ (l ks : List α), l.Nodup → (∀ x ∈ l, x ∈ ks) → ks.length ≤ l.length → ks.Perm l
  | [], ks, _, _, hl => by
    have e : ks = [] := List.length_eq_zero_iff.mp (Nat.le_zero.mp hl)
    rw [e]
  | x :: l, ks, nd, sub, hl => by
    obtain ⟨hx, nd'⟩ := List.nodup_cons.mp nd
    have hk : x ∈ ks := sub x List.mem_cons_self
    have p1 : ks.Perm (x :: ks.erase x) := List.perm_cons_erase hk
    have l1 : (ks.erase x).length = ks.length - 1 := List.length_erase_of_mem hk
    have sub' : ∀ y ∈ l, y ∈ ks.erase x := fun y hy => by
      have ne : y ≠ x := fun e => hx (e ▸ hy)
      exact (List.mem_erase_of_ne ne).mpr (sub y (List.mem_cons_of_mem _ hy))
    have p2 := perm_of_sub l (ks.erase x) nd' sub' (by rw [l1]; rw [List.length_cons] at hl; omega)
    exact p1.trans (p2.cons x)

/-! ### the set's state -/
structure Ok (P : Program) (w : World) (D : SD) (l : List Str) : Prop where
  tx : TxOk P w D l
  up : Ris D.2.2.place.toList
  led : w.params.followText "set-order" = true ∨ D.2.2.led = true
  nd : l.Nodup
def At (P : Program) (w : World) (h : Heap) (a : Addr) (l : List Str) : Prop := ∃ D : SD, h.get? a = some (sObj "set" D) ∧ Ok P w D l

section
variable {P : Program} {w : World} {A : Around} {E : Value → Shared → Prop} {s : Shared}
theorem At.move {h h' : Heap} {a : Addr} {l : List Str} (x : At P w h a l) (k : ∀ o, h.get? a = some o → h'.get? a = some o) : At P w h' a l := by
  obtain ⟨D, hD, o⟩ := x
  exact ⟨D, k _ hD, o⟩
theorem tail_up {ep : Nat} {es : Array (Int × Value)} {t : SetTable} {b : Bool} (r : Ris t.place.toList) : Ris (tailTx ep es t b).2.2.place.toList := by
  unfold tailTx
  by_cases c : (!b && t.tooFull) = true
  · rw [if_pos c]
    exact relayAll_ris _ _ _
  · rw [if_neg c]
    exact r
theorem tail_led {ep : Nat} {es : Array (Int × Value)} {t : SetTable} {b : Bool} : (tailTx ep es t b).2.2.led = t.led := by
  unfold tailTx
  by_cases c : (!b && t.tooFull) = true
  · rw [if_pos c]
    exact relayAll_led _ _ _
  · rw [if_neg c]
def dull (t : SetTable) : SetTable := if t.plain = true then { t with plain := false } else t
theorem dull_place (t : SetTable) : (dull t).place = t.place := by
  unfold dull
  by_cases c : t.plain = true
  · rw [if_pos c]
  · rw [if_neg c]
theorem dull_led (t : SetTable) : (dull t).led = t.led := by
  unfold dull
  by_cases c : t.plain = true
  · rw [if_pos c]
  · rw [if_neg c]
theorem Ok.add {D : SD} {l : List Str} {k : Str} (u : Tok) (o : Ok P w D l) (hk : k ∉ l) : Ok P w (addTx (hashStr w k) (.str k u) D) (k :: l) := by
  obtain ⟨es, ep, t⟩ := D
  have r1 : Ris (layNew t es (hashStr w k) (.str k u)).2.1.place.toList := layNew_ris t es _ _ o.up
  have l1 : (layNew t es (hashStr w k) (.str k u)).2.1.led = t.led := layNew_led t es _ _
  have e : addTx (hashStr w k) (.str k u) (es, ep, t) = tailTx ep (layNew t es (hashStr w k) (.str k u)).1 (dull (layNew t es (hashStr w k) (.str k u)).2.1) (layNew t es (hashStr w k) (.str k u)).2.2.1 := rfl
  refine ⟨add_ok u o.tx, ?_, ?_, List.nodup_cons.mpr ⟨hk, o.nd⟩⟩
  · rw [e]
    exact tail_up (by rw [dull_place]; exact r1)
  · refine o.led.imp id fun z => ?_
    rw [e, tail_led, dull_led, l1]
    exact z
theorem add_old {a : Addr} {T : String} {D : SD} {l : List Str} {k : Str} {u : Tok} {Q : Bool → Shared → Prop} (ho : s.heap.get? a = some (sObj T D)) (o : TxOk P w D l) (hk : k ∈ l) (hb : l.length < scanBound) (h : Q false s) :
    wpAny (model P w) A (setAddHashed a (.str k u) (hashStr w k)) Q E s := by
  obtain ⟨es, ep, t⟩ := D
  have dd : (sObj T (es, ep, t)).data = .set es ep t := rfl
  have ft : t.fits es.size = true := o.fit
  have el : ElemsOf (strKind P w) es.toList := o.el
  have z : es.size = l.length := o.sz
  have b0 : es.size < scanBound := by omega
  have ky : (strKind P w).is k (.str k u) = true := is_str k u
  obtain ⟨e0, he0, q0⟩ := (o.mem k).mp hk
  unfold setAddHashed setAddHashedIn
  refine wpAny_holding (wpAny_bind (wpAny_setState_of ho dd ft ?_))
  dsimp only
  rw [byScan_of rfl b0 el]
  simp only [↓reduceIte]
  unfold setAddByScan
  refine wpAny_bind (wpAny_bind (wpAny_rule (wpAny_bind (wpAny_setScan_of (knd := strKind P w) (k := k) ky ho dd ft el ?_))))
  cases fi : List.findIdx? (fun e => (strKind P w).is k e.2) es.toList with
  | some j =>
    dsimp only
    exact wpAny_pure (wpAny_pure h)
  | none =>
    have c := List.findIdx?_eq_none_iff.mp fi e0 he0
    rw [q0] at c
    cases c

/-! ### the loop that fills it -/
theorem fill {I : Addr} {fp wr : List Addr} {G : Array GenState → Array GenState → Prop} {n : Nat} {Pv : Nat → Value → Prop} {St : Nat → Shared → Prop} {R : Result → Shared → Prop}
    (W : WalksS P w A.in1 I fp wr G n Pv St) (a : Addr) (ha : a ∉ fp) (xs : List Str) (hn : n = xs.length) (hb : xs.length + 1 < scanBound) (hv : ∀ i v, Pv i v → ∃ k t, xs[i]? = some k ∧ v = .str k t) :
    ∀ (m i : Nat) (s : Shared), n - i = m → i ≤ n → St i s → (∃ l, At P w s.heap a l ∧ l.length ≤ i ∧ ∀ k, k ∈ l ↔ k ∈ xs.take i) →
      (∀ s' l, Moved (a :: wr) G s s' → At P w s'.heap a l → (∀ k, k ∈ l ↔ k ∈ xs) → l.length ≤ n → R (.ok (.ret .none)) s') →
      codeAny (model P w) A (.builtin "set.update.loop" ⟨[.ref a, .ref I], []⟩) R s := by
  have aw : a ∉ wr := fun q => ha (W.sub _ q)
  have ww : ∀ b ∈ wr, b ∈ a :: wr := fun b q => List.mem_cons_of_mem _ q
  intro m
  induction m with
  | zero =>
    intro i s em hi st ⟨l, hA, hl, mem⟩ hR
    obtain rfl : i = n := by omega
    refine codeAny_builtin F.entry_set_update_loop ?_
    rw [Around.under_plainId F.plain_set_update_loop _]
    show wpAny _ A.in1 (pyNext (.ref I) >>= _) _ _ s
    refine wpAny_bind (W.done s _ _ st fun s' mv => ?_)
    show wpAny _ A.in1 (ret Value.none) _ _ s'
    have et : xs.take i = xs := List.take_of_length_le (by omega)
    rw [et] at mem
    exact wpAny_pure (hR s' l (mv.mono ww) (hA.move fun o e => mv.heap a o aw e) mem hl)
  | succ m ih =>
    intro i s em hi st ⟨l, hA, hl, mem⟩ hR
    have lt : i < n := by omega
    refine codeAny_builtin F.entry_set_update_loop ?_
    rw [Around.under_plainId F.plain_set_update_loop _]
    show wpAny _ A.in1 (pyNext (.ref I) >>= _) _ _ s
    refine wpAny_bind (W.item i s _ _ lt st fun v s1 hP st1 mv => ?_)
    obtain ⟨k, t, hk, rfl⟩ := hv i v hP
    obtain ⟨D, hD, oD⟩ := hA.move (h' := s1.heap) fun o e => mv.heap a o aw e
    show wpAny _ A.in1 (holding [Value.str k t] (setAdd a (.str k t)) >>= _) _ _ s1
    refine wpAny_bind (wpAny_holding ?_)
    unfold setAdd
    refine wpAny_holding (wpAny_bind ((strKind P w).pyHash (k := k) (is_str k t) ?_))
    have tk : xs.take (i + 1) = xs.take i ++ [k] := by rw [List.take_add_one, hk] <;> rfl
    by_cases kl : k ∈ l
    · refine add_old (s := { s1 with toks := s1.toks + 1 }) hD oD.tx kl (by omega) ?_
      refine wpAny_pure ⟨plainId_quiet F.plain_set_update_loop _, ih (i + 1) _ (by omega) lt (W.frame _ s1 _ _ st1 (Nat.le_succ _) fun b _ o e => e) ⟨l, ⟨D, hD, oD⟩, by omega, fun j => ?_⟩ fun s2 l2 mv2 hA2 mem2 hl2 => ?_⟩
      · rw [tk, List.mem_append, List.mem_singleton, ← mem j]
        exact ⟨.inl, fun q => q.elim id fun e => e ▸ kl⟩
      · exact hR s2 l2 (Moved.trans W.gtrans ((mv.mono ww).then_heap (Nat.le_succ _) fun b o _ e => e) mv2) hA2 mem2 hl2
    · refine add_x (s := { s1 with toks := s1.toks + 1 }) hD oD.tx kl (by omega) ?_
      have hg : (s1.heap.update a (fun _ => sObj "set" (addTx (hashStr w k) (.str k t) D))).get? a = some (sObj "set" (addTx (hashStr w k) (.str k t) D)) := get_upd _ hD rfl
      have ot : ∀ b o, b ≠ a → s1.heap.get? b = some o → (s1.heap.update a (fun _ => sObj "set" (addTx (hashStr w k) (.str k t) D))).get? b = some o :=
        fun b o ne e => (Heap.get?_update_other _ _ (Ne.symm ne)).trans e
      refine wpAny_pure ⟨plainId_quiet F.plain_set_update_loop _, ih (i + 1) _ (by omega) lt (W.frame _ s1 _ _ st1 (Nat.le_succ _) fun b q o e => ?_) ⟨k :: l, ⟨_, hg, oD.add t kl⟩, by rw [List.length_cons]; omega, fun j => ?_⟩ fun s2 l2 mv2 hA2 mem2 hl2 => ?_⟩
      · exact ot b o (fun z => ha (z ▸ q)) e
      · rw [tk, List.mem_append, List.mem_singleton, ← mem j, List.mem_cons]
        exact Or.comm
      · refine hR s2 l2 (Moved.trans W.gtrans ((mv.mono ww).then_heap (Nat.le_succ _) fun b o q e => ?_) mv2) hA2 mem2 hl2
        exact ot b o (fun z => q (z ▸ List.mem_cons_self)) e
end

/-! ### set(v) -/
abbrev fresh (w : World) : Obj := { cls := .type "set", dict := none, data := .set #[] 0 (.fresh 0 0 (!w.params.followText "set-order")) }
theorem fresh_ok {P : Program} {w : World} : Ok P w (#[], 0, .fresh 0 0 (!w.params.followText "set-order")) [] where
  tx := TxOk.nil (by rfl)
  up := List.Pairwise.nil
  led := by
    show _ ∨ (!w.params.followText "set-order") = true
    cases w.params.followText "set-order"
    · exact .inr rfl
    · exact .inl rfl
  nd := List.nodup_nil
theorem at_fresh {P : Program} {w : World} {h : Heap} {a : Addr} (e : h.get? a = some (fresh w)) : At P w h a [] := ⟨(#[], 0, .fresh 0 0 (!w.params.followText "set-order")), e, fresh_ok⟩

section
variable {P : Program} {w : World} {A : Around} {E : Value → Shared → Prop} {s : Shared}
/-- what set(v) leaves: a new object, all else as it was -/
def Left (P : Program) (w : World) (s : Shared) (xs : List Str) (s' : Shared) : Prop :=
  ∃ h' tk l, s' = { s with heap := h', toks := tk } ∧ At P w h' s.heap.objs.size l ∧ (∀ k, k ∈ l ↔ k ∈ xs) ∧ l.length ≤ xs.length ∧ ∀ b o, s.heap.get? b = some o → h'.get? b = some o
set_option maxHeartbeats 4000000 in
theorem call_set_of {v : Value} {xs : List Str} {Q : Value → Shared → Prop}
    (hI : ∀ A' : Around, A'.handled = A.handled → wpAny (model P w) A' (Builtin.«set.__init__» ⟨[.ref s.heap.objs.size, v], []⟩) (fun f s2 => f = .done (.ret .none) ∧ Left P w s xs s2) E { s with heap := s.heap.push (fresh w) })
    (h : ∀ s', Left P w s xs s' → Q (.ref s.heap.objs.size) s') :
    wpAny (model P w) A (call (.type "set") [v]) Q E s := by
  obtain ⟨c, tl, hmro⟩ := F.called_set.mro
  have hmade := F.called_set.made
  have hsub := F.called_set.sub
  refine wpAny_call (codeAny_of_tree ?_)
  show wpAny _ _ (callAny (.type "set") _) _ _ _
  refine wpAny_pure ⟨Code.quiet_builtin _ (by decide +kernel), codeAny_builtin F.entry_type_call ?_⟩
  rw [Around.under_plain (weight_type_call_type "set" [v] []) rfl]
  have h1 := F.called_set.notType
  have h2 := F.called_set.canCreate
  have hct := F.typeCall_set_1 v
  repeat (any_goals (first | assumption | wp_step))
  refine codeAny_mono (code_set_led1 v (E := E) (Q₁ := fun obj s₁ => obj = .ref s.heap.objs.size ∧ s₁ = { s with heap := s.heap.push (fresh w) }) ⟨rfl, rfl⟩) fun r s₁ hr => ?_
  cases r with
  | error e => exact hr
  | ok fl =>
    cases fl with
    | ret obj =>
      obtain ⟨rfl, rfl⟩ := hr
      have hS : (s.heap.push (fresh w)).get? s.heap.objs.size = some (fresh w) := Heap.get?_push_size _ rfl
      have hT : Shared.TypeIs { s with heap := s.heap.push (fresh w) } (.ref s.heap.objs.size) "set" := ⟨_, hS, rfl⟩
      have hli := F.called_set.init.lookup
      have hbi := F.called_set.init.bind (.ref s.heap.objs.size)
      repeat (any_goals (first | assumption | wp_step))
      refine codeAny_mono (codeAny_call_builtin (R := wants (fun r s₂ => r = .none ∧ Left P w s xs s₂) E) F.called_set.init.plain F.entry_set_init (check_set_init_1 hT ?_)) fun r₂ s₂ hr₂ => ?_
      · refine wpAny_mono (hI A.in1.in1 (by simp)) (fun f s2 q => ?_) fun e s2 q => q
        obtain ⟨rfl, q⟩ := q
        exact ⟨rfl, q⟩
      · cases r₂ with
        | error e => exact hr₂
        | ok fl₂ =>
          cases fl₂ with
          | ret r =>
            obtain ⟨rfl, hL⟩ := hr₂
            repeat (any_goals (first | assumption | wp_step))
            exact h _ hL
          | _ => exact hr₂.elim
    | _ => exact hr.elim
theorem left_of {a : Addr} {wr : List Addr} {xs l : List Str} {s s1 s' : Shared} (ea : a = s.heap.objs.size) (hw : ∀ b ∈ wr, s.heap.objs.size ≤ b) (k1 : ∀ b o, s.heap.get? b = some o → s1.heap.get? b = some o)
    (eg : s1.gens = s.gens) (ed : s1.drawn = s.drawn) (eo : s1.os = s.os) (mv : Moved (a :: wr) (fun x y => y = x) s1 s') (hA : At P w s'.heap a l) (mem : ∀ k, k ∈ l ↔ k ∈ xs) (hl : l.length ≤ xs.length) : Left P w s xs s' := by
  obtain ⟨h', g', d', tk', os'⟩ := s'
  have e1 : g' = s.gens := mv.gens.trans eg
  have e2 : d' = s.drawn := mv.drawn.trans ed
  have e3 : os' = s.os := mv.os.trans eo
  subst e1 e2 e3 ea
  refine ⟨h', tk', l, rfl, hA, mem, hl, fun b o e => ?_⟩
  have lt : b < s.heap.objs.size := Heap.lt_size e
  refine mv.heap b o (fun z => ?_) (k1 b o e)
  rcases List.mem_cons.mp z with z | z
  · exact absurd z (Nat.ne_of_lt lt)
  · exact absurd (hw b z) (Nat.not_le_of_lt lt)
set_option maxHeartbeats 4000000 in
theorem init_list {l : Addr} {items : Array Value} {xs : List Str} (hh : A.handled = none) (hl : s.heap.IsList l items) (hi : StrsAre items.toList xs) (hb : xs.length + 1 < scanBound) :
    wpAny (model P w) A (Builtin.«set.__init__» ⟨[.ref s.heap.objs.size, .ref l], []⟩) (fun f s2 => f = .done (.ret .none) ∧ Left P w s xs s2) E { s with heap := s.heap.push (fresh w) } := by
  have hsz : xs.length = items.size := by rw [← StrsAre.len_eq hi, Array.length_toList]
  have hv : ∀ (i : Nat) (v : Value), items[i]? = some v → ∃ k t, xs[i]? = some k ∧ v = .str k t := fun i v q => by
    have hi' : i < xs.length := by rw [hsz]; exact (Array.getElem?_eq_some_iff.mp q).1
    obtain ⟨t, e⟩ := SS.strs_at hi i v (by rw [Array.getElem?_toList]; exact q)
    refine ⟨xs[i], t, List.getElem?_eq_getElem hi', ?_⟩
    rw [e, List.getD_eq_getElem?_getD, List.getElem?_eq_getElem hi'] <;> rfl
  have hS : (s.heap.push (fresh w)).get? s.heap.objs.size = some (fresh w) := Heap.get?_push_size _ rfl
  have hT : Shared.TypeIs { s with heap := s.heap.push (fresh w) } (.ref s.heap.objs.size) "set" := ⟨_, hS, rfl⟩
  obtain ⟨ol, hol, hcl, nl, hdl⟩ := id hl
  obtain ⟨ocls, odict, odata, oslots⟩ := ol
  simp only at hcl hdl
  subst hcl; subst hdl
  have hol1 : (s.heap.push (fresh w)).get? l = some { cls := .type "list", dict := odict, data := .seq items nl, slots := oslots } := Heap.get?_push_of_some _ hol
  have f1 := F.sub_list_set
  have f2 := F.sub_list_frozenset
  have f3 : (Value.type "list" == Value.type "dict") = false := by decide
  have hl1 : (s.heap.push (fresh w)).IsList l items := ⟨_, hol1, rfl, nl, rfl⟩
  have lS : l < s.heap.objs.size := Heap.lt_size hol
  have nI : l ≠ (s.heap.push (fresh w)).objs.size := by
    rw [Heap.size_push]
    exact Nat.ne_of_lt (Nat.lt_succ_of_lt lS)
  have nS : s.heap.objs.size ∉ [(s.heap.push (fresh w)).objs.size, l] := by
    rw [Heap.size_push]
    intro q
    rcases List.mem_cons.mp q with q | q
    · exact absurd q (Nat.ne_of_lt (Nat.lt_succ_self _))
    · exact absurd (List.mem_singleton.mp q) (Nat.ne_of_gt lS)
  have z1 : (s.heap.push (fresh w)).objs.size = s.heap.objs.size + 1 := Heap.size_push ..
  unfold Builtin.«set.__init__» noKeywords Builtin.Frozenset.updateFrom
  generalize ePI : pyIter = PI
  wp_walk
  subst ePI
  refine wpAny_pyIter_list hl1 ?_
  refine wpAny_bind (wpAny_runValue ?_)
  refine fill ((Walks.list (by simp [hh]) _ l nI items).toS) s.heap.objs.size nS xs hsz.symm hb hv (items.size - 0) 0 _ rfl (Nat.zero_le _)
    ⟨⟨_, Heap.get?_push_size _ rfl, rfl, rfl⟩, hl1.push _⟩ ⟨[], at_fresh (Heap.get?_push_of_some _ hS), Nat.le_refl _, fun k => by simp⟩ fun s' m mv hA mem hm => ?_
  show wpAny _ _ _ _ _ _
  refine wpAny_pure ?_
  show wpAny _ _ (ret Value.none) _ _ _
  refine wpAny_pure ⟨rfl, left_of (wr := [_]) rfl ?_ ?k1 ?e1 ?e2 ?e3 mv hA mem (by omega)⟩
  case k1 => exact fun b o e => Heap.get?_push_of_some _ (Heap.get?_push_of_some _ e)
  case e1 => rfl
  case e2 => rfl
  case e3 => rfl
  intro b q
  rw [List.mem_singleton.mp q]
  show _ ≤ (s.heap.push (fresh w)).objs.size
  rw [z1]
  exact Nat.le_succ _
set_option maxHeartbeats 4000000 in
theorem init_text {x : Str} {t : Tok} (hh : A.handled = none) (hb : x.length + 1 < scanBound) :
    wpAny (model P w) A (Builtin.«set.__init__» ⟨[.ref s.heap.objs.size, .str x t], []⟩) (fun f s2 => f = .done (.ret .none) ∧ Left P w s (x.cps.toList.map fun c => (⟨#[c]⟩ : Str)) s2) E { s with heap := s.heap.push (fresh w) } := by
  have hsz : (x.cps.toList.map fun c => (⟨#[c]⟩ : Str)).length = x.cps.size := by rw [List.length_map, Array.length_toList]
  have hx : x.length = x.cps.size := rfl
  have hv : ∀ (i : Nat) (v : Value), SignAt x i v → ∃ k t, (x.cps.toList.map fun c => (⟨#[c]⟩ : Str))[i]? = some k ∧ v = .str k t := fun i v ⟨c, u, q, e⟩ => by
    refine ⟨⟨#[c]⟩, u, ?_, e⟩
    rw [List.getElem?_map, Array.getElem?_toList, q] <;> rfl
  have hS : (s.heap.push (fresh w)).get? s.heap.objs.size = some (fresh w) := Heap.get?_push_size _ rfl
  have hT : Shared.TypeIs { s with heap := s.heap.push (fresh w) } (.ref s.heap.objs.size) "set" := ⟨_, hS, rfl⟩
  have hTx : Shared.TypeIs { s with heap := s.heap.push (fresh w) } (.str x t) "str" := typeIs_str _ x t
  have f1 := PySem.F.sub_str_set
  have f2 := PySem.F.sub_str_frozenset
  have f3 : (Value.type "str" == Value.type "dict") = false := by decide
  have z1 : (s.heap.push (fresh w)).objs.size = s.heap.objs.size + 1 := Heap.size_push ..
  unfold Builtin.«set.__init__» noKeywords Builtin.Frozenset.updateFrom
  generalize ePI : pyIter = PI
  wp_walk
  subst ePI
  refine wpAny_pyIter_str fun o St W st => ?_
  refine wpAny_bind (wpAny_runValue ?_)
  refine fill ((W _ (by simp [hh])).toS) s.heap.objs.size (by rw [z1]; simp) _ hsz.symm (by rw [hsz, ← hx]; exact hb) hv (x.cps.size - 0) 0 _ rfl (Nat.zero_le _)
    st ⟨[], at_fresh (Heap.get?_push_of_some _ hS), Nat.le_refl _, fun k => by simp⟩ fun s' m mv hA mem hm => ?_
  show wpAny _ _ _ _ _ _
  refine wpAny_pure ?_
  show wpAny _ _ (ret Value.none) _ _ _
  refine wpAny_pure ⟨rfl, left_of (wr := [_]) rfl ?_ ?k1 ?e1 ?e2 ?e3 mv hA mem (by rw [hsz]; exact hm)⟩
  case k1 => exact fun b o e => Heap.get?_push_of_some _ (Heap.get?_push_of_some _ e)
  case e1 => rfl
  case e2 => rfl
  case e3 => rfl
  intro b q
  rw [List.mem_singleton.mp q]
  show _ ≤ (s.heap.push (fresh w)).objs.size
  rw [z1]
  exact Nat.le_succ _

/-! ### sorted(set) -/
theorem texts_of {es : List (Int × Value)} (el : ElemsOf (strKind P w) es) : ∀ vs : List Value, (∀ v ∈ vs, v ∈ es.map (·.2)) → ∃ ks : List Str, StrsAre vs ks ∧ (∀ k, k ∈ ks ↔ ∃ v ∈ vs, (strKind P w).is k v = true) ∧ ks.length = vs.length
  | [], _ => ⟨[], .nil, fun k => by simp, rfl⟩
  | v :: vs, h => by
    obtain ⟨ks, h1, h2, h3⟩ := texts_of el vs fun u q => h u (List.mem_cons_of_mem _ q)
    obtain ⟨e, he, ev⟩ := List.mem_map.mp (h v List.mem_cons_self)
    obtain ⟨⟨k, hk, _⟩, _⟩ := el e he
    rw [ev] at hk
    obtain ⟨t, rfl⟩ := Value.isStrOf_shape hk
    refine ⟨k :: ks, .cons k t h1, fun j => ?_, by rw [List.length_cons, List.length_cons, h3]⟩
    rw [List.mem_cons, h2 j]
    constructor
    · rintro (q | ⟨u, hu, q⟩)
      · exact ⟨_, List.mem_cons_self, by rw [q]; exact hk⟩
      · exact ⟨u, List.mem_cons_of_mem _ hu, q⟩
    · rintro ⟨u, hu, q⟩
      rcases List.mem_cons.mp hu with z | z
      · rw [z] at q
        exact .inl ((strKind P w).inj _ _ _ q hk)
      · exact .inr ⟨u, z, q⟩
theorem sorted_at {a : Addr} {l : List Str} {Q : Value → Shared → Prop} (R : At P w s.heap a l) (hh : A.handled = none) (h64 : l.length < 64)
    (hQ : ∀ s' p (out : Array Value) (c : Nat) (ys : List Str), (∀ b o, s.heap.get? b = some o → s'.heap.get? b = some o) → s'.gens = s.gens → s'.os = s.os → s.heap.objs.size ≤ p →
      s'.heap.get? p = some (seqObj "list" out c) → StrsAre out.toList ys → ys.Perm l → sortedS ys = true → Q (.ref p) s') :
    wpAny (model P w) A (call (.builtin "sorted") [.ref a]) Q E s := by
  obtain ⟨⟨es, ep, t⟩, ho, ok⟩ := R
  have ft : t.fits es.size = true := ok.tx.fit
  have z : es.size = l.length := ok.tx.sz
  have sb : es.size < scanBound := by
    unfold scanBound
    omega
  refine Calls.call_function_entry kind_sorted plain_sorted entry_sorted (args_sorted1 _) ?_
  unfold Builtin.«sorted»
  refine wpAny_bind (m := checkCount "sorted" 1 1 _) (wpAny_pure ?_)
  refine wpAny_bind (collect_set (A := A.in1) hh ⟨_, ho, rfl, rfl⟩ ft sb ok.up ok.led fun s1 vs k1 hz g1 o1 pm => ?_)
  obtain ⟨ks, hS, mem, hlen⟩ := texts_of ok.tx.el vs fun v hv => pm.mem_iff.mp hv
  have vl : vs.length = l.length := by rw [pm.length_eq, List.length_map, Array.length_toList]; exact z
  have pk : ks.Perm l := perm_of_sub l ks ok.nd (fun k hk => by
    obtain ⟨e, he, q⟩ := (ok.tx.mem k).mp hk
    exact (mem k).mpr ⟨e.2, pm.mem_iff.mpr (List.mem_map.mpr ⟨e, he, rfl⟩), q⟩) (by omega)
  refine wpAny_bind (wpAny_newList ?_ (by rw [vl, sizeLine_eq]; omega))
  have hoL : (s1.heap.push (seqObj "list" vs.toArray 0)).get? s1.heap.objs.size = some (seqObj "list" vs.toArray 0) := Heap.get?_push_size _ rfl
  refine wpAny_bind (wpAny_holding (wpAny_call_entry slot_list_sort ⟨_, hoL, rfl⟩ entry_list_sort
    (list_sort_treeK strKind_oneLt hoL hS.keysOf (fun v₁ v₂ rest e => keyKind_strs (by rw [← e]; exact hS)) (by rw [vl]; exact h64) fun st' hp hs => ?_) (args_list_sort _)))
  obtain ⟨ys, y1, y2, y3⟩ := sorted_out_str hS hp hs
  obtain ⟨c, hc⟩ := sortedHeap_at (vs := vs) (out := Array.map (fun x => x.snd) (arrOf st')) hoL
  refine ⟨_, rfl, wpAny_pure ⟨_, rfl, hQ _ s1.heap.objs.size _ c ys (fun b u e => ?_) g1 o1 hz hc y1 (y2.trans pk) y3⟩⟩
  have q := k1 b u e
  have lt := Heap.lt_size q
  show (sortedHeap (s1.heap.push (seqObj "list" vs.toArray 0)) s1.heap.objs.size vs _).get? b = some u
  rw [sortedHeap_old (Nat.ne_of_lt lt) (by rw [Heap.size_push]; exact Nat.lt_succ_of_lt lt)]
  exact Heap.get?_push_of_some _ q
end

/-! ### over the layer -/
def SetTx (P : Program) (w : World) (a : Addr) (l : List Str) : HO := .ext fun h => At P w h a l
theorem setTx_new {P : Program} {w : World} {H : Hp} {h : Heap} {a : Addr} {l : List Str} (R : At P w h a l) : ObjOk P w H h a (SetTx P w a l) := by
  have ⟨D, hD, _⟩ := R
  exact ⟨R, ⟨_, hD⟩, fun h1 h2 p k => At.move p k⟩
section
variable {X : Cx}
/-- set(xs), xs a list of texts -/
def rSetL (K : PySem.W.Frag) (P : Program) (w : World) : List V → Hp → VK → Prop := fun xs H Q => ∃ (l : Addr) (ss : List Str), xs = [V.ref l] ∧ SqL K H l (ss.map V.str) ∧ ss.length + 1 < scanBound ∧
  ∀ (a : Addr) (ls : List Str), H a = none → ls.Nodup → (∀ k, k ∈ ls ↔ k ∈ ss) → ls.length ≤ ss.length → Q (.ref a) (upd H a (SetTx P w a ls))
theorem At.nd {P : Program} {w : World} {h : Heap} {a : Addr} {l : List Str} (x : At P w h a l) : l.Nodup := by
  obtain ⟨D, _, o⟩ := x
  exact o.nd
theorem cr_setL (hc : X.calm = true) : CallR X (.type "set") (rSetL X.K X.prog X.w) := by
  intro pins s σ H xs us Q I r h
  obtain ⟨l, ss, rfl, hs, hb, q⟩ := h
  obtain ⟨its, rv, hl, _⟩ := I.list hs
  rw [Vals.ref1 r]
  have hn : H s.heap.objs.size = none := I.hok.fresh (Nat.le_refl _)
  refine call_set_of (xs := ss) (fun A' e => init_list (e.trans (I.ok.hd hc)) hl.isList rv.strs hb) fun s' L => ?_
  obtain ⟨h', tk, ls, rfl, hA, mem, hlen, kp⟩ := L
  exact ⟨.ref s.heap.objs.size, upd H s.heap.objs.size (SetTx X.prog X.w s.heap.objs.size ls), I.laid (t' := tk) kp (Nat.le_refl _) (setTx_new hA), rfl, q _ ls hn hA.nd mem hlen⟩
def signs (x : Str) : List Str := x.cps.toList.map fun c => (⟨#[c]⟩ : Str)
/-- set(x), x a text -/
def rSetT (P : Program) (w : World) : List V → Hp → VK → Prop := fun xs H Q => ∃ (x : Str), xs = [V.str x] ∧ x.length + 1 < scanBound ∧
  ∀ (a : Addr) (ls : List Str), H a = none → ls.Nodup → (∀ k, k ∈ ls ↔ k ∈ signs x) → ls.length ≤ x.length → Q (.ref a) (upd H a (SetTx P w a ls))
theorem cr_setT (hc : X.calm = true) : CallR X (.type "set") (rSetT X.prog X.w) := by
  intro pins s σ H xs us Q I r h
  obtain ⟨x, rfl, hb, q⟩ := h
  obtain ⟨t, rfl⟩ : ∃ t, us = [Value.str x t] := by
    cases r with
    | cons r1 r2 =>
      cases r2
      obtain ⟨t, rfl⟩ := r1
      exact ⟨t, rfl⟩
  have hn : H s.heap.objs.size = none := I.hok.fresh (Nat.le_refl _)
  refine call_set_of (xs := x.cps.toList.map fun c => (⟨#[c]⟩ : Str)) (fun A' e => init_text (e.trans (I.ok.hd hc)) hb) fun s' L => ?_
  obtain ⟨h', tk, ls, rfl, hA, mem, hlen, kp⟩ := L
  rw [List.length_map, Array.length_toList] at hlen
  exact ⟨.ref s.heap.objs.size, upd H s.heap.objs.size (SetTx X.prog X.w s.heap.objs.size ls), I.laid (t' := tk) kp (Nat.le_refl _) (setTx_new hA), rfl, q _ ls hn hA.nd mem hlen⟩
/-- sorted(found) of texts, fewer than 64 -/
def rSortTx (P : Program) (w : World) : List V → Hp → VK → Prop := fun vs H Q => ∃ (a : Addr) (l : List Str), vs = [V.ref a] ∧ H a = some (SetTx P w a l) ∧ l.length < 64 ∧
  ∀ (ys : List Str) (p : Addr), ys.Perm l → sortedS ys = true → H p = none → Q (.ref p) (upd H p (.lst (ys.map V.str)))
theorem cr_sortTx (hc : X.calm = true) : CallR X (.builtin "sorted") (rSortTx X.prog X.w) := by
  intro pins s σ H vs us Q I r h
  obtain ⟨a, l, rfl, ha, h64, q⟩ := h
  have R : At X.prog X.w s.heap a l := (I.hok a _ ha).1
  rw [Vals.ref1 r]
  refine sorted_at R (I.ok.hd hc) h64 fun s' p out c ys k g o hp hg hi pm so => ?_
  have hlen : (ys.map V.str).length ≤ sizeLine := by
    rw [List.length_map, pm.length_eq, sizeLine_eq]
    omega
  have hn : H p = none := I.hok.fresh hp
  have J : Inv X pins σ (upd H p (.lst (ys.map V.str))) { s with heap := s'.heap, gens := s'.gens, drawn := s'.drawn, toks := s'.toks } :=
    I.call (ch := []) (Un.laid k hp hn) (I.hok.laid k hp ⟨hlen, out.toList, c, vals_of_strs hi, hg⟩) (by rw [g]; exact I.bare) (fun _ z => nomatch z)
  have e : s' = { s with heap := s'.heap, gens := s'.gens, drawn := s'.drawn, toks := s'.toks } := by
    cases s'
    cases s
    cases o
    rfl
  rw [e]
  exact ⟨.ref p, _, J, rfl, q ys p pm so hn⟩
end
end TX
namespace DW
open PySem PySem.Spec PyProof.Rows L2
def topS (i : Nat) : Stmt := PySem.Challenge.pw_downwords_k05_products_or_not.main.body.getD i (.Pass ⟨0, 0, 0, 0⟩)
abbrev sIsAscending : Stmt := topS 1
abbrev sIsWord : Stmt := topS 2
abbrev sIsFactor : Stmt := topS 4
abbrev sIsProduct : Stmt := topS 5
abbrev sBegin : Stmt := topS 7
abbrev sDraw : Stmt := topS 8
abbrev sPick : Stmt := topS 9
abbrev sAlpha : Stmt := topS 10
abbrev sFactor : Stmt := topS 11
abbrev sProduct : Stmt := topS 12
abbrev sLSame : Stmt := topS 13
abbrev sLBent : Stmt := topS 14
abbrev sLIsFactor : Stmt := topS 15
abbrev sLaw : Stmt := topS 16
end DW
/-! zip(text, text) -/
namespace ZX
open PySem PySem.Spec PyProof.Rows L2
/-- the signs of two texts, side by side, in new pairs -/
def Itx (x y : Str) : It :=
  ⟨fun i _ => i < x.cps.size ∧ i < y.cps.size,
    fun i H v H' => ∃ (T : Addr) (c d : Nat), v = .ref T ∧ H T = none ∧ H' = upd H T (.tup [.str ⟨#[c]⟩, .str ⟨#[d]⟩]) ∧ x.cps[i]? = some c ∧ y.cps[i]? = some d,
    fun i _ => i = min x.cps.size y.cps.size⟩
theorem turn_zipX {P : Program} {w : World} {K : PySem.W.Frag} {elts : List Expr} {kk : Nat} {tpos : Pos} {x y : Str} {t u : Tok} {z TI TO i1 i2 : Addr} (S : ZipSep2 z TI TO i1 i2 [i1] [i2]) :
    Turn P w K (.Tuple elts kk tpos) (Itx x y) [z, TI, TO, i1, i2] z (fun i h => IsZip h z TI TO .none ∧ IsTupOf2 h TI (.ref i1) (.ref i2) ∧ (∃ a b, IsTupOf2 h TO a b) ∧ h.IsStrIter i1 (strIterType x) x t i ∧ h.IsStrIter i2 (strIterType y) y u i) where
  mem := by simp
  obj := fun i h st c hc => by
    obtain ⟨hz, hTI, ⟨a, b, hTO⟩, ⟨o1, e1, _, d1⟩, ⟨o2, e2, _, d2⟩⟩ := st
    have e' : c = z ∨ c = TI ∨ c = TO ∨ c = i1 ∨ c = i2 := by simpa using hc
    rcases e' with q | q | q | q | q
    · rw [q]; exact ⟨_, hz, fun v q => nomatch q⟩
    · rw [q]; exact ⟨_, hTI, fun v q => nomatch q⟩
    · rw [q]; exact ⟨_, hTO, fun v q => nomatch q⟩
    · rw [q]; exact ⟨o1, e1, fun v q => by rw [d1] at q; cases q⟩
    · rw [q]; exact ⟨o2, e2, fun v q => by rw [d2] at q; cases q⟩
  keep := fun i h h' st k => by
    obtain ⟨hz, hTI, ⟨a, b, hTO⟩, ⟨o1, e1, r1⟩, ⟨o2, e2, r2⟩⟩ := st
    exact ⟨k z (by simp) _ hz, k TI (by simp) _ hTI, ⟨a, b, k TO (by simp) _ hTO⟩, ⟨o1, k i1 (by simp) _ e1, r1⟩, ⟨o2, k i2 (by simp) _ e2, r2⟩⟩
  item := by
    intro X hP hw hK hc i pins s σ H E I hf st hg
    subst hP hw hK
    obtain ⟨hz, hTI, ⟨a0, b0, hTO⟩, h1, h2⟩ := st
    have hzl : z < s.heap.objs.size := Heap.lt_size hz
    refine wpAny_pyNext_zipD2_item S (Draws.text (A := X.A.in1) (I.ok.hd hc) i1 x t) (Draws.text (A := X.A.in1) (I.ok.hd hc) i2 y u) hz hTI hTO h1 h2 hg.1 hg.2 fun v1 v2 h' tk p1 p2 z' TO' h1' h2' hT hsz hk => ?_
    obtain ⟨c, tc, hc1, rfl⟩ := p1
    obtain ⟨d, td, hd1, rfl⟩ := p2
    refine ⟨_, rfl, wpAny_letOwnedTupleGo_zip (s := { s with heap := h', toks := tk }) z' fun h'' z'' sb => ?_⟩
    have hT2 : h''.get? s.heap.objs.size = some { cls := .type "tuple", data := .seq #[.str ⟨#[c]⟩ tc, .str ⟨#[d]⟩ td] } := (sb.2 _ (Nat.ne_of_gt hzl)).trans hT
    have new : ObjOk X.prog X.w (upd H s.heap.objs.size (.tup [.str ⟨#[c]⟩, .str ⟨#[d]⟩])) h'' s.heap.objs.size (.tup [.str ⟨#[c]⟩, .str ⟨#[d]⟩]) :=
      ⟨by show 2 ≤ sizeLine; decide, [.str ⟨#[c]⟩ tc, .str ⟨#[d]⟩ td], .cons ⟨_, rfl⟩ (.cons ⟨_, rfl⟩ .nil), ⟨_, hT2, rfl, _, rfl⟩⟩
    have I1 : Inv X pins σ (upd H s.heap.objs.size (.tup [.str ⟨#[c]⟩, .str ⟨#[d]⟩])) { s with heap := h'', toks := tk } :=
      I.turnedNew (t' := tk) (ch := [z, TI, TO, i1, i2]) (fun c o hb q => (sb.2 c (fun q' => hb (by simp [q']))).trans (hk c o (fun q' => hb (by simp [q'])) (fun q' => hb (by simp [q'])) (fun q' => hb (by simp [q'])) (fun q' => hb (by simp [q'])) q)) hf (Nat.le_refl _) new
    have st' : ∀ {a : Addr} {ty : String} {v : Str} {tv : Tok} {n : Nat}, a ≠ z → h'.IsStrIter a ty v tv n → h''.IsStrIter a ty v tv n := fun n ⟨o, e, r⟩ => ⟨o, (sb.2 _ n).trans e, r⟩
    refine ⟨.ref s.heap.objs.size, _, I1, rfl, ⟨_, c, d, rfl, I.hok.fresh (Nat.le_refl _), rfl, hc1, hd1⟩, ⟨z'', ?_, ⟨.str ⟨#[c]⟩ tc, .str ⟨#[d]⟩ td, ?_⟩, st' S.zi1.symm h1', st' S.zi2.symm h2'⟩, fun b hb => ?_⟩
    · exact (sb.2 _ S.TIz).trans (hk _ _ S.TIz S.TITO S.TIi1 S.TIi2 hTI)
    · exact (sb.2 _ S.TOz).trans TO'
    · have hlt : b < s.heap.objs.size := by
        have e' : b = z ∨ b = TI ∨ b = TO ∨ b = i1 ∨ b = i2 := by simpa using hb
        rcases e' with q | q | q | q | q
        · rw [q]; exact hzl
        · rw [q]; exact Heap.lt_size hTI
        · rw [q]; exact Heap.lt_size hTO
        · rw [q]; obtain ⟨_, e1, _⟩ := h1; exact Heap.lt_size e1
        · rw [q]; obtain ⟨_, e2, _⟩ := h2; exact Heap.lt_size e2
      rw [upd_ne (Nat.ne_of_lt hlt)]
      exact (hf b hb).1
  done := by
    intro X hP hw hK hc i pins s σ H E I hf st hg
    subst hP hw hK
    obtain ⟨hz, hTI, ⟨a0, b0, hTO⟩, h1, h2⟩ := st
    have hg' : i = min x.cps.size y.cps.size := hg
    exact wpAny_pyNext_zipD2_end S (Draws.text (A := X.A.in1) (I.ok.hd hc) i1 x t) (Draws.text (A := X.A.in1) (I.ok.hd hc) i2 y u) hz hTI hTO h1 h2 (by omega) (by omega) (by omega) fun h' tk hk => ⟨rfl, I.turnedL (t' := tk) (ch := [z, TI, TO, i1, i2]) (fun c o hb q =>
      hk c o (fun q' => hb (by simp [q'])) (fun q' => hb (by simp [q'])) (fun q' => hb (by simp [q'])) (fun q' => hb (by simp [q'])) q) hf⟩
  self := fun A i s Q E st h => wpAny_pyIter_zip st.1 h
theorem sep_new (n : Addr) : ZipSep2 (n + 4) (n + 2) (n + 3) n (n + 1) [n] [n + 1] := by
  constructor <;> simp <;> omega
def iZipX (ta : TA) : TI := fun σ H R => ta σ H fun vs H1 => ∃ x y : Str, vs = [.str x, .str y] ∧ R (Itx x y) H1
theorem pi_zipX {X : Cx} {e e2 : Expr} {ta : TA} {p pos tpos : Pos} {elts : List Expr} {kk : Nat} (hg : Gl X "zip") (hm : X.mg "zip" = none) (ha : PA X [e, e2] ta)
    (hs : starEach [e, e2] X.env = (false, eval e X.env) :: starEach [e2] X.env := by rfl) (hpl : (backTo pos (starEach [e2] X.env)).any (·.1) = false := by rfl) :
    PI X (.Tuple elts kk tpos) (.Call (.Name "zip" p) [e, e2] [] pos) (iZipX ta) := by
  refine ⟨fun pins s σ H R I h => ?_⟩
  refine Call_ (ld_blt I hg hm PyProof.Rows.boot_zip (PyProof.Rows.callWith_type1 (thn (ha.run pos pins s σ H _ I h) fun us s1 ⟨vs, H1, I1, r1, q1⟩ => ?_) hs hpl))
  obtain ⟨x, y, ex, q⟩ := q1
  subst ex
  cases r1 with
  | cons r rr =>
    cases rr with
    | cons r' rr =>
      cases rr
      obtain ⟨t, rfl⟩ := r
      obtain ⟨u, rfl⟩ := r'
      refine zip_begins2 (begins_text x t) (begins_text y u) trivial trivial fun h' hz hTI hTO h1 h2 hsz hk => wpAny_pyIter_zip hz ?_
      have I2 : Inv X pins σ H1 { s1 with heap := h' } := I1.kept (t' := s1.toks) hk
      refine ⟨s1.heap.objs.size + 4, [s1.heap.objs.size + 4, s1.heap.objs.size + 2, s1.heap.objs.size + 3, s1.heap.objs.size, s1.heap.objs.size + 1], _, _, H1, rfl, I2, turn_zipX (sep_new s1.heap.objs.size), ⟨hz, hTI, ⟨_, _, hTO⟩, ⟨_, h1, rfl, rfl⟩, ⟨_, h2, rfl, rfl⟩⟩, fun c hcm => ?_, q⟩
      have e' : c = s1.heap.objs.size + 4 ∨ c = s1.heap.objs.size + 2 ∨ c = s1.heap.objs.size + 3 ∨ c = s1.heap.objs.size ∨ c = s1.heap.objs.size + 1 := by simpa using hcm
      have hle : s1.heap.objs.size ≤ c := by
        rcases e' with z | z | z | z | z
        · rw [z]; exact Nat.le_add_right _ _
        · rw [z]; exact Nat.le_add_right _ _
        · rw [z]; exact Nat.le_add_right _ _
        · rw [z]; exact Nat.le_refl _
        · rw [z]; exact Nat.le_add_right _ _
      exact I1.fpOk hle (I1.hok.fresh hle)
theorem walk_zipX {x y : Str} : Walk (Itx x y) (min x.cps.size y.cps.size) (fun _ => True) (Itx x y).yld :=
  ⟨fun i _ hi _ => ⟨by omega, by omega⟩, fun _ _ => rfl, fun _ _ _ _ _ _ y => y⟩
end ZX
/-! list(text); text[::-1] as a text of the same length -/
namespace R1
open PySem PySem.Spec PyProof.Rows L2
theorem texts_in : ∀ l : List Value, (∀ v ∈ l, ∃ z t, v = .str z t) → ∃ ss : List Str, Vals (ss.map V.str) l
  | [], _ => ⟨[], .nil⟩
  | v :: l, h => by
    obtain ⟨ss, r⟩ := texts_in l fun u hu => h u (List.mem_cons_of_mem _ hu)
    obtain ⟨z, t, rfl⟩ := h v List.mem_cons_self
    exact ⟨z :: ss, .cons ⟨t, rfl⟩ r⟩
section
variable {X : Cx}
theorem cr_listT (hc : X.calm = true) : CallR X (.type "list") (fun xs H Q => ∃ x : Str, xs = [.str x] ∧ x.length ≤ sizeLine ∧ ∀ p (ss : List Str), H p = none → Q (.ref p) (upd H p (.lst (ss.map V.str)))) := by
  intro pins s σ H xs us Q I r h
  obtain ⟨x, rfl, hb, q⟩ := h
  obtain ⟨t, rfl⟩ : ∃ t, us = [Value.str x t] := by
    cases r with
    | cons r1 r2 =>
      cases r2
      obtain ⟨t, rfl⟩ := r1
      exact ⟨t, rfl⟩
  refine call_list_str (I.ok.hd hc) x t (hn := hb) fun h' tk acc c hk hS hacc => ?_
  obtain ⟨ss, rv⟩ := texts_in acc.toList fun v hv => by
    obtain ⟨j, hj⟩ := List.getElem?_of_mem hv
    obtain ⟨c, u, _, e⟩ := hacc.2 j v (by simpa using hj)
    exact ⟨_, u, e⟩
  have hl : (ss.map V.str).length ≤ sizeLine := by
    rw [rv.length, Array.length_toList, hacc.1]
    exact hb
  exact ⟨.ref s.heap.objs.size, upd H s.heap.objs.size (.lst (ss.map V.str)), I.laid (t' := tk) hk (Nat.le_refl _) ⟨hl, acc.toList, c, rv, hS⟩, rfl, q _ ss (I.hok.fresh (Nat.le_refl _))⟩
def tRevT (te : TE) : TE := fun σ H Q => te σ H fun x H1 => ∃ z : Str, x = .str z ∧ z.length ≤ sizeLine ∧ ∀ y : Str, y.length ≤ z.length → (∀ c ∈ y.cps.toList, c ∈ z.cps.toList) → Q (.str y) H1
theorem pe_revT {e : Expr} {te : TE} {k : Nat} {p1 p2 p3 pos : Pos} (he : PE X e te) : PE X (.Subscript e (.Slice none none (some (.UnaryOp .USub (.Constant (.int 1) k p1) p2)) p3) pos) (tRevT te) := by
  refine ⟨fun pins s σ H Q I h => ?_⟩
  refine Subscript_ (thn (he.run pins s σ H _ I h) fun v s1 ⟨x, H1, I1, r1, q1⟩ => ?_)
  obtain ⟨z, ex, hz, q⟩ := q1
  subst ex
  obtain ⟨t, rfl⟩ := r1
  have hst : PO X (some (.UnaryOp .USub (.Constant (.int 1) k p1) p2)) (tPart (tUn (rU fun i => .int (-i)) (tC (.int 1)))) := po_some (pe_un un_neg pe_int)
  refine wpAny_Slice (thn (po_none.run pins s1 σ H1 (fun o H2 => o = none ∧ H2 = H1) I1 ⟨rfl, rfl⟩) fun vl s2 ⟨l, H2, I2, pl, el, e2⟩ => ?_)
  subst el e2
  refine thn (po_none.run pins s2 σ H2 (fun o H3 => o = none ∧ H3 = H2) I2 ⟨rfl, rfl⟩) fun vu s3 ⟨u, H3, I3, pu, eu, e3⟩ => ?_
  subst eu e3
  refine thn (hst.run pins s3 σ H3 (fun o H4 => o = some (-1) ∧ H4 = H3) I3 ⟨1, rfl, -1, rfl, rfl, rfl⟩) fun vs s4 ⟨o, H4, I4, ps, eo, e4⟩ => ?_
  subst eo e4
  obtain ⟨l1, rfl, el⟩ := IsPart.raw pl
  obtain ⟨u1, rfl, eu⟩ := IsPart.raw pu
  obtain ⟨st1, rfl, es⟩ := IsPart.raw ps
  have I5 : Inv X pins σ H4 { s4 with heap := s4.heap.push { cls := .type "slice", data := .fields #[partValue l1, partValue u1, partValue st1] } } := I4.kept (t' := s4.toks) fun b ob q => Heap.get?_push_of_some _ q
  show wpAny (model X.prog X.w) X.A (subscriptTail e (.Slice none none (some (.UnaryOp .USub (.Constant (.int 1) k p1) p2)) p3) (.str z t) (.ref s4.heap.objs.size)) (EP X pins σ Q) X.xe { s4 with heap := s4.heap.push { cls := .type "slice", data := .fields #[partValue l1, partValue u1, partValue st1] } }
  refine tail_any (ops := [.str z t, .ref s4.heap.objs.size]) (typeIs_str _ _ _) (F.slot_str_getitem.lookup) ?_ (by with_unfolding_all rfl)
  refine wpAny_getItem_str_slice (l := l1) (u := u1) (st := st1) ⟨_, Heap.get?_push_size _ rfl, rfl, rfl⟩ (by rw [es]; rfl) ?_
  have e0 : sliceMade z t l1 u1 st1 = .str ⟨(((List.range z.length).map fun k => z.length - 1 - k).filterMap (z.cps[·]?)).toArray⟩ := by
    unfold sliceMade slicePicked
    rw [el, eu, es]
    show (if ((-1 : Int) == 1 && _) = true then _ else _) = _
    rw [if_neg (by simp)]
    show Made.str ⟨((sliceRange ((z.length : Int) - 1) (-1) (-1)).filterMap (z.cps[·]?)).toArray⟩ = _
    rw [PySem.W.krv_sliceRange]
  rw [e0]
  have hl : (⟨(((List.range z.length).map fun k => z.length - 1 - k).filterMap (z.cps[·]?)).toArray⟩ : Str).length ≤ z.length := by
    show (((List.range z.length).map fun k => z.length - 1 - k).filterMap (z.cps[·]?)).toArray.size ≤ _
    rw [List.size_toArray]
    refine Nat.le_trans (List.length_filterMap_le _ _) ?_
    rw [List.length_map, List.length_range]
    exact Nat.le_refl _
  have hm : ∀ c ∈ (⟨(((List.range z.length).map fun k => z.length - 1 - k).filterMap (z.cps[·]?)).toArray⟩ : Str).cps.toList, c ∈ z.cps.toList := fun c hc => by
    have hc' : c ∈ ((List.range z.length).map fun k => z.length - 1 - k).filterMap (z.cps[·]?) := by simpa using hc
    obtain ⟨i, _, hi⟩ := List.mem_filterMap.mp hc'
    rw [← Array.getElem?_toList] at hi
    exact List.mem_of_getElem? hi
  exact ⟨Nat.le_trans hl hz, .str _, H4, I5.tok _, ⟨_, rfl⟩, q _ hl hm⟩
end
end R1
/-! The law's own def, run where nothing is being shown (no guard stands): repr of lists and tuples there. -/
namespace GA
open PySem PySem.Spec PyProof.Rows L2
/-- the def keeps its promise when the law's caller calls it -/
structure FnAt (P : Program) (w : World) (K : PySem.W.Frag) (mg : Str → Option Value) (base : Heap) (f : Addr) (fd : FuncData) (ps : List Str) (sp : Sp) : Prop where
  run : ∀ (s : Shared) (H : Hp) (args : Args) (us : List Value) (vs : List V) (Q : VK) (E : XK), Env0 P w K mg base callerA [] s H → BindsTo s fd args (ps.zip us) → Vals vs us → sp vs H Q E →
    codeAny (model P w) callerA (.call (.ref f) args) (CR CX0 [] P w H s Q E) s
section
variable {P : Program} {w : World} {K : PySem.W.Frag} {mg : Str → Option Value} {base : Heap} {x qual : Str} {params : Arguments} {body : List Stmt} {scope : Scope} {dvs : List V} {kws : List (Str × V)} {f : Addr} {fd : FuncData}
theorem okAt {N ps : List Str} {k : Nat} {sp : Sp} (F : FunD K x qual params body scope dvs kws f fd) (S : FnScope N ps scope) (hR : Room (k + 1) callerA) (len : ∀ vs H Q E, sp vs H Q E → vs.length = ps.length)
    (bd : ∀ (cdv : Value) (s : Shared) (H : Hp) (vs : List V) (Q : VK) (E : XK), Room k (callerA.deeper (envOfC qual scope s.heap.objs.size f cdv)) → sp vs H Q E →
      ∃ t, PSs (cxOf CX0 P w K mg base N qual scope f cdv callerA [] s H E) body t ∧ t { nx := fun _ H' => Q .non H', rt := Q } (start N vs) H) : FnAt P w K mg base f fd ps sp := by
  obtain ⟨oc, od, dV, kV, doc, pm, an, cdv, ct, osl, rfl, lk, hcd, _, _⟩ := F.ex
  refine ⟨fun s H args us vs Q E e0 hb r hsp => ?_⟩
  have vl := len _ _ _ _ hsp
  have kx : K.In s.heap := e0.mod.kin.keeps fun b o e => (e0.bs b o e).1
  have nl : s.heap.NoLimit := e0.mod.nolimit.keeps fun b o e => (e0.bs b o e).1
  have kinds : ∀ y ∈ ps.zip us, scope.names.lookup y.1 = some .local ∨ (scope.names.lookup y.1 = some .cell ∧ ((cellsFrom (s.heap.objs.size + 1) scope.names []).lookup y.1).isSome = true) := by
    rintro ⟨y1, y2⟩ hy
    rcases S.par y1 (List.of_mem_zip hy).1 with q | q
    · left; exact q
    · right; exact ⟨q, PySem.W.cellsFrom_some _ _ _ (.inl q)⟩
  refine codeAny_call_function hR.depth (kx _ _ lk) rfl S.co S.gen rfl (PySem.W.codeRec_of kx hcd) (hb _ _ _ _ ?_)
  refine wpAny_newFunctionEnv_cells S.kind kinds fun env ee s1 ic => ?_
  subst ee
  refine ⟨nl.keeps ic.toInCall.keep, codeAny_func ?_⟩
  obtain ⟨t, pt, rd⟩ := bd cdv s H vs Q E (hR.deeper _) hsp
  have iv : L2.Inv (cxOf CX0 P w K mg base N qual scope f cdv callerA [] s H E) [] (start N vs) H s1 := inv_start S hR.hd e0 vl r ic
  refine wpAny_mono (pt.run [] s1 (start N vs) H _ iv rd) (fun fl s2 q => ?_) fun e s2 q => q
  have out : ∀ {σ2 : L2.St} {H2 : Hp} {a : V} {u : Value}, L2.Inv (cxOf CX0 P w K mg base N qual scope f cdv callerA [] s H E) [] σ2 H2 s2 → RelV a u → Q a H2 → CE [] P w H s Q u s2 := by
    intro σ2 H2 a u J ra qa
    exact ⟨a, H2, J.os, J.bare, J.base, J.hok, ra, qa⟩
  cases fl with
  | ret u =>
    obtain ⟨a, σ2, H2, J, ra, qa⟩ := q
    exact out J ra qa
  | next =>
    obtain ⟨σ2, H2, J, qa⟩ := q
    exact out (a := V.non) (u := Value.none) J rfl qa
  | brk =>
    obtain ⟨_, _, _, z⟩ := q
    exact z.elim
  | cont =>
    obtain ⟨_, _, _, z⟩ := q
    exact z.elim
end
/-- the law's call -/
theorem lawAt {P : Program} {w : World} {K : PySem.W.Frag} {mg mb : Str → Option Value} {fa a : Addr} {fd : FuncData} {x : Str} {sp : Sp} {s₁ : Shared} {vs : List Value} {ns : List Int}
    (kx : K.In s₁.heap) (hn : s₁.heap.Ns mainGlobals mg) (hb : s₁.heap.Ns builtinsNs mb) (hbb : ∀ y : Str, y ≠ "__name__" → mb y = bootBuiltins y) (lim : s₁.heap.NoLimit) (hg : s₁.gens = #[])
    (ha : s₁.heap.get? a = some { cls := .type "list", data := .seq vs.toArray }) (hi : IntsAre vs ns) (hl : ns.length ≤ sizeLine)
    (F : ∀ base : Heap, K.In base → base.Ns mainGlobals mg → FnAt P w K mg base fa fd [x] sp) (bd : ∀ (s : Shared) (u : Value), BindsTo s fd ⟨[u], []⟩ [(x, u)])
    (hsp : ∀ H : Hp, Only H → SqL K H a (ns.map V.int) → sp [.ref a] H (fun v _ => v = .bl true) fun _ _ _ => False) :
    codeAny (model P w) callerA (.call (.ref fa) ⟨[.ref a], []⟩) (fun r s' => r = .ok (.ret (.bool true)) ∧ OldK s₁.heap s'.heap ∧ s'.os = s₁.os ∧ AllBare s'.gens) s₁ := by
  have rel := vals_ints hi
  have lenV := hi.length
  have main : ∀ H : Hp, Only H → SqL K H a (ns.map V.int) → HOk P w H s₁.heap → (∀ b, H b ≠ none → b = a) → (H a ≠ none → K.lookup a = none) →
      codeAny (model P w) callerA (.call (.ref fa) ⟨[.ref a], []⟩) (fun r s' => r = .ok (.ret (.bool true)) ∧ OldK s₁.heap s'.heap ∧ s'.os = s₁.os ∧ AllBare s'.gens) s₁ := by
    intro H only sq ok onlyA notK
    have low : ∀ {b : Addr} {o : Obj}, s₁.heap.get? b = some o → H b = none → (hidT s₁.heap H).get? b = some o := fun e z => hidT_get e z
    have noD : ∀ {b : Addr} {o : Obj} {es : Array DictEntry} {ep : Nat}, s₁.heap.get? b = some o → o.data = .dict es ep → H b = none := by
      intro b o es ep e d
      cases q : H b with
      | none => rfl
      | some u =>
        have eb := onlyA b (by rw [q]; simp)
        subst eb
        rw [ha] at e
        cases e
        cases (show Data.seq vs.toArray _ = Data.dict es ep from d)
    have nsL : ∀ {b : Addr} {m : Str → Option Value}, s₁.heap.Ns b m → (hidT s₁.heap H).Ns b m := by
      rintro b m ⟨o, es, ep, e, d, r⟩
      exact ⟨o, es, ep, low e (noD e d), d, r⟩
    have kb : K.In (hidT s₁.heap H) := fun b o e => low (kx b o e) (by
      cases q : H b with
      | none => rfl
      | some u =>
        have eb := onlyA b (by rw [q]; simp)
        subst eb
        have z := notK (by rw [q]; simp)
        rw [z] at e
        cases e)
    have hM : Mod K mg (hidT s₁.heap H) := ⟨kb, nsL hn, ⟨mb, nsL hb, hbb⟩, by
      obtain ⟨mc, z1, z2⟩ := lim
      exact ⟨mc, nsL z1, z2⟩⟩
    have e0 : Env0 P w K mg (hidT s₁.heap H) callerA [] s₁ H := ⟨rfl, hM, fun b o e => of_hidT e, Nat.le_of_eq (hidT_size _ _), trivial, fun b q => absurd (show b ∈ ([] : List Addr) from q) (by simp), ok, .of_eq hg⟩
    refine codeAny_mono ((F _ kb (nsL hn)).run s₁ H ⟨[.ref a], []⟩ [.ref a] [.ref a] _ _ e0 (bd s₁ (.ref a)) (.cons rfl .nil) (hsp H only sq)) fun r s2 h => ?_
    cases r with
    | error e => exact (show False from h).elim
    | ok fl =>
      cases fl with
      | next => exact (show False from h).elim
      | brk => exact (show False from h).elim
      | cont => exact (show False from h).elim
      | ret u =>
        obtain ⟨v, H2, os, bare, un, ok2, rv, qv⟩ := h
        obtain rfl : v = .bl true := qv
        obtain rfl : u = Value.bool true := rv
        refine ⟨rfl, OldK.of_keep fun b o e => ?_, os, bare⟩
        cases q : H b with
        | none => exact un.keep b o e q (fun z => absurd (show b ∈ ([] : List Addr) from z) (by simp)) (by simp)
        | some u =>
          rcases only b with z | ⟨ob, xs, z⟩
          · rw [q] at z
            cases z
          · have z2 := un.frzs b ob _ z
            obtain ⟨e1, _⟩ := ok b _ z
            obtain ⟨e2, _⟩ := ok2 b _ z2
            rw [e] at e1
            cases e1
            exact e2
  cases hk : K.lookup a with
  | some o =>
    have e := kx a o hk
    rw [ha] at e
    cases e
    exact main (fun _ => none) (fun _ => .inl rfl) (.inr ⟨_, vs.toArray, _, hk, rfl, rfl, rfl, by rw [List.size_toArray, lenV]; exact hl, by simpa using rel⟩) (fun b u z => by cases (show (none : Option HO) = some u from z)) (fun b z => absurd rfl z) fun z => absurd rfl z
  | none =>
    refine main (fun b => if b = a then some (.frz { cls := .type "list", data := .seq vs.toArray } (.lst (ns.map V.int))) else none) (fun b => ?_) (.inl (.inr ⟨{ cls := .type "list", data := .seq vs.toArray }, if_pos rfl⟩)) (fun b u z => ?_) (fun b z => ?_) fun _ => hk
    · by_cases c : b = a
      · exact .inr ⟨_, _, if_pos c⟩
      · exact .inl (if_neg c)
    · by_cases c : b = a
      · have y := (if_pos c).symm.trans z
        cases y
        subst c
        exact ⟨ha, by rw [List.length_map]; exact hl, vs, _, rel, ha⟩
      · have y := (if_neg c).symm.trans z
        cases y
    · by_cases c : b = a
      · exact c
      · exact absurd (if_neg c) z
/-- the end of a law by such a promise -/
theorem walkAt {l : PySem.W.OpenLaw} {n : Nat} {q : Program} {loose : List Str} {XP : (Str → Option Value) → Heap → Prop} {YP : World → Heap → Prop} {d : DefRec} {x : Str}
    (hn : l.most = some n) (hn2 : n ≤ sizeLine) (hdf : d.params.defaults = [])
    (F : ∀ (w : World) (mg : Str → Option Value) (fa : Addr) (h : Heap), YP w h → h.Ns mainGlobals mg → mg d.name = some (.ref fa) →
      ∃ (K : PySem.W.Frag) (fd : FuncData) (sp : Sp), K.In h ∧ (∀ (s : Shared) (u : Value), BindsTo s fd ⟨[u], []⟩ [(x, u)]) ∧
        (∀ (H : Hp) (a : Addr) (ns : List Int), ns.length ≤ n → Only H → SqL K H a (ns.map V.int) → sp [.ref a] H (fun v _ => v = .bl true) fun _ _ _ => False) ∧
        ∀ base : Heap, K.In base → base.Ns mainGlobals mg → FnAt l.prog w K mg base fa fd [x] sp) :
    PySem.W.WalkO q loose XP YP l.row.toRowW d [] (fun f vs => PySem.call f vs) := by
  refine Att.attach_call hn hdf fun w s₀ s₁ mg mb fa o pm cd doc a vs ns G Y ho hd hcd hmg hobj hints hlen hg => ?_
  obtain ⟨K, fd, sp, kx, hb, hsp, hF⟩ := F w mg fa _ Y G.T.g hmg
  exact lawAt kx G.T.g G.T.b G.T.builtins G.T.nolimit hg hobj hints (Nat.le_trans hlen hn2) hF hb fun H only sq => hsp H a ns hlen only sq
/-! ### repr of what is read as data -/
section
variable {X : Cx}
theorem cr_reprD (hg : X.A.guards = some []) (hu : X.A.units + 66 < cLine) : CallR X (.builtin "repr") (fun xs H Q => ∃ (a : Addr) (d : PyData), xs = [.ref a] ∧ Dp X.K H (.ref a) d ∧ d.showable = true ∧ d.hasDict = false ∧ d.depth ≤ 64 ∧ d.shown.length ≤ sizeLine ∧ Q (.str d.shown) H) := by
  intro pins s σ H xs us Q I r h
  obtain ⟨a, d, rfl, hd, sh, nd, dp, sz, q⟩ := h
  rw [Vals.ref1 r]
  obtain ⟨as, rd⟩ := Dp.reads I d _ _ hd rfl
  refine repr_of_reads' rd sh (fun z => by rw [nd] at z; cases z) hg (by omega) (fun b o e => e) (fun h' u tk kp => ?_) sz
  exact ⟨.str d.shown, H, I.kept (t' := tk) kp, ⟨_, rfl⟩, q⟩
theorem cr_reprN : CallR X (.builtin "repr") (fun xs H Q => xs = [.non] ∧ Q (.str "None") H) := by
  intro pins s σ H xs us Q I r h
  obtain ⟨rfl, q⟩ := h
  obtain ⟨u, rfl, ru⟩ := vals1 r
  cases ru
  exact PySem.P.repr_of_none ⟨.str _, H, I.tok _, ⟨_, rfl⟩, q⟩
end
end GA
namespace DW
open PySem PySem.Spec PyProof.Rows L2
/-! ### a def that stands in the module -/
structure Df (K : PySem.W.Frag) (mg : Str → Option Value) (x : Str) (st : Stmt) (ps : List Str) where
  f : Addr
  fd : FuncData
  F : FunD K x x (defArgs st) (defBody st) (defScope st) [] [] f fd
  g : mg x = some (.ref f)
  b : Binds K fd ps []
/-! ### heaps: all but the tape stays -/
structure Kp (t : Addr) (H H' : Hp) : Prop where
  old : ∃ kvs, H t = some (.dK kvs)
  new : ∃ kvs, H' t = some (.dK kvs)
  oth : ∀ b o, b ≠ t → H b = some o → H' b = some o
theorem Kp.trans {t : Addr} {H H1 H2 : Hp} (a : Kp t H H1) (b : Kp t H1 H2) : Kp t H H2 := ⟨a.old, b.new, fun c o n e => b.oth c o n (a.oth c o n e)⟩
theorem Kp.of {t : Addr} {H H' : Hp} {kvs : List (Key × V)} (e : H t = some (.dK kvs)) (s : Same H H') : Kp t H H' := ⟨⟨_, e⟩, ⟨_, s _ _ e⟩, fun b o _ h => s b o h⟩
theorem Kp.at {t b : Addr} {H H' : Hp} {o : HO} (k : Kp t H H') (h : H b = some o) (n : ∀ kvs, o ≠ .dK kvs) : H' b = some o := by
  obtain ⟨kvs, e⟩ := k.old
  exact k.oth b o (fun z => by
    subst z
    rw [e] at h
    exact n kvs (Option.some.inj h).symm) h
theorem Kp.lst {t b : Addr} {H H' : Hp} {xs : List V} {K : PySem.W.Frag} (k : Kp t H H') (h : SqL K H b xs) : SqL K H' b xs := by
  rcases h with (h | ⟨o, h⟩) | h
  · exact .inl (.inl (k.at h fun _ z => by cases z))
  · exact .inl (.inr ⟨o, k.at h fun _ z => by cases z⟩)
  · exact .inr h
theorem Kp.tup {t b : Addr} {H H' : Hp} {xs : List V} {K : PySem.W.Frag} (k : Kp t H H') (h : SqT K H b xs) : SqT K H' b xs := by
  rcases h with (h | ⟨o, h⟩) | h
  · exact .inl (.inl (k.at h fun _ z => by cases z))
  · exact .inl (.inr ⟨o, k.at h fun _ z => by cases z⟩)
  · exact .inr h
theorem same_upd {H : Hp} {p : Addr} {o : HO} (h : H p = none) : Same H (upd H p o) := fun b x e => by
  rw [upd_ne (ne_of_none e h)]
  exact e
theorem Kp.gone {t b : Addr} {H H' : Hp} (k : Kp t H H') (h : H' b = none) : H b = none := by
  cases q : H b with
  | none => rfl
  | some o =>
    by_cases e : b = t
    · obtain ⟨kvs, z⟩ := k.new
      rw [e, z] at h
      cases h
    · rw [k.oth b o e q] at h
      cases h
/-! ### the tape -/
def tpd (c : Addr) (p l : Int) : List (Key × V) := [(.inr "cells", .ref c), (.inr "place", .int p), (.inr "left", .int l)]
structure Tape (H : Hp) (t c : Addr) (n : Nat) : Prop where
  ex : ∃ (cells : List Int) (p : Nat) (l : Int), H t = some (.dK (tpd c p l)) ∧ H c = some (.lst (cells.map V.int)) ∧ 0 < cells.length ∧ cells.length ≤ 63 ∧ p ≤ n ∧ 0 ≤ l
section
variable {H H' : Hp} {t c : Addr} {n m : Nat}
theorem Tape.dk (T : Tape H t c n) : ∃ kvs, H t = some (.dK kvs) := by
  obtain ⟨cells, p, l, h, _⟩ := T.ex
  exact ⟨_, h⟩
theorem Tape.same (T : Tape H t c n) (s : Same H H') : Tape H' t c n := by
  obtain ⟨cells, p, l, h, hc, r⟩ := T.ex
  exact ⟨cells, p, l, s _ _ h, s _ _ hc, r⟩
theorem Tape.kp (T : Tape H t c n) (s : Same H H') : Kp t H H' := by
  obtain ⟨kvs, h⟩ := T.dk
  exact Kp.of h s
theorem Tape.mono (T : Tape H t c n) (h : n ≤ m) : Tape H t c m := by
  obtain ⟨cells, p, l, h1, h2, h3, h4, h5, h6⟩ := T.ex
  exact ⟨cells, p, l, h1, h2, h3, h4, Nat.le_trans h5 h, h6⟩
theorem Kp.refl (T : Tape H t c n) : Kp t H H := T.kp (Same.refl H)
/-- a store at an object that is not the tape's -/
theorem Tape.upd {D : Addr} {o : HO} (T : Tape H t c n) (h1 : D ≠ t) (h2 : D ≠ c) : Tape (upd H D o) t c n := by
  obtain ⟨cells, p, l, h, hc, r⟩ := T.ex
  exact ⟨cells, p, l, (upd_ne h1.symm).trans h, (upd_ne h2.symm).trans hc, r⟩
theorem Tape.ne1 {D : Addr} (T : Tape H t c n) (h : H D = none) : D ≠ t := fun z => by
  obtain ⟨cells, p, l, e, hc, r⟩ := T.ex
  rw [z, e] at h
  cases h
theorem Tape.ne2 {D : Addr} (T : Tape H t c n) (h : H D = none) : D ≠ c := fun z => by
  obtain ⟨cells, p, l, e, hc, r⟩ := T.ex
  rw [z, hc] at h
  cases h
theorem Kp.put {D : Addr} {o : HO} (k : Kp t H H') (h : H D = Option.none) (h1 : D ≠ t) : Kp t H (L2.upd H' D o) := by
  obtain ⟨kvs, e⟩ := k.new
  refine ⟨k.old, ⟨kvs, (upd_ne h1.symm).trans e⟩, fun b u n q => ?_⟩
  rw [upd_ne (ne_of_none q h)]
  exact k.oth b u n q
end
theorem ks1 : ¬ (("cells" : Str) = "place") := by decide +kernel
theorem ks2 : ¬ (("cells" : Str) = "left") := by decide +kernel
theorem ks3 : ¬ (("place" : Str) = "left") := by decide +kernel
theorem ks1' : ¬ (("place" : Str) = "cells") := by decide +kernel
theorem ks2' : ¬ (("left" : Str) = "cells") := by decide +kernel
theorem ks3' : ¬ (("left" : Str) = "place") := by decide +kernel
theorem tp_cells (c : Addr) (p l : Int) : valV (tpd c p l) (Sum.inr ("cells" : Str)) = some (.ref c) := by simp [tpd, valV]
theorem tp_place (c : Addr) (p l : Int) : valV (tpd c p l) (Sum.inr ("place" : Str)) = some (.int p) := by simp [tpd, valV, ks1]
theorem tp_left (c : Addr) (p l : Int) : valV (tpd c p l) (Sum.inr ("left" : Str)) = some (.int l) := by simp [tpd, valV, ks2, ks3]
theorem tp_put_place (c : Addr) (p q l : Int) : putK (tpd c p l) (Sum.inr ("place" : Str)) (.int q) = tpd c q l := by simp [putK, tpd, ks1, ks3']
theorem tp_put_left (c : Addr) (p l m : Int) : putK (tpd c p l) (Sum.inr ("left" : Str)) (.int m) = tpd c p m := by simp [putK, tpd, ks2, ks3]
theorem tp_merge (c : Addr) (p l : Int) : mergeK [] (tpd c p l) = tpd c p l := by simp [mergeK, putK, tpd, ks1, ks2, ks3]
theorem g_cells {H : Hp} {t c : Addr} {p l : Int} (h : H t = some (.dK (tpd c p l))) : DGet H t (.str "cells") (some (.ref c)) := by
  have q := DGet.k (k := Sum.inr ("cells" : Str)) h
  rw [tp_cells] at q
  exact q
theorem g_place {H : Hp} {t c : Addr} {p l : Int} (h : H t = some (.dK (tpd c p l))) : DGet H t (.str "place") (some (.int p)) := by
  have q := DGet.k (k := Sum.inr ("place" : Str)) h
  rw [tp_place] at q
  exact q
theorem g_left {H : Hp} {t c : Addr} {p l : Int} (h : H t = some (.dK (tpd c p l))) : DGet H t (.str "left") (some (.int l)) := by
  have q := DGet.k (k := Sum.inr ("left" : Str)) h
  rw [tp_left] at q
  exact q
theorem p_place {H : Hp} {t c : Addr} {p l : Int} (q : Int) (h : H t = some (.dK (tpd c p l))) : DPut H t (.str "place") (.int q) (upd H t (.dK (tpd c q l))) := by
  have z := DPut.k (k := Sum.inr ("place" : Str)) (v := V.int q) h (by show 3 < sizeLine; decide)
  rw [tp_put_place] at z
  exact z
theorem p_left {H : Hp} {t c : Addr} {p l : Int} (q : Int) (h : H t = some (.dK (tpd c p l))) : DPut H t (.str "left") (.int q) (upd H t (.dK (tpd c p q))) := by
  have z := DPut.k (k := Sum.inr ("left" : Str)) (v := V.int q) h (by show 3 < sizeLine; decide)
  rw [tp_put_left] at z
  exact z
def spBegin (K : PySem.W.Frag) : Sp := fun vs H Q _ => ∃ (a : Addr) (ns : List Int), vs = [.ref a] ∧ SqL K H a (ns.map V.int) ∧ ∀ H' t c, Same H H' → H t = none → H c = none → Tape H' t c 0 → Q (.ref t) H'
def spDraw : Sp := fun vs H Q _ => ∃ (t c : Addr) (m : Int) (n : Nat), vs = [.ref t, .int m] ∧ Tape H t c n ∧ n < 2 ^ 40 ∧ 0 < m ∧ m < 2 ^ 30 ∧ ∀ H' r, Kp t H H' → Tape H' t c (n + 1) → 0 ≤ r → r < m → Q (.int r) H'
/-- pick: from a list, from a text -/
def spPick (K : PySem.W.Frag) : Sp := fun vs H Q _ => ∃ (t c : Addr) (n : Nat) (x : V), vs = [.ref t, x] ∧ Tape H t c n ∧ n < 2 ^ 40 ∧
  ((∃ a xs, x = .ref a ∧ SqL K H a xs ∧ xs ≠ [] ∧ xs.length < 2 ^ 30 ∧ ∀ H' y, Kp t H H' → Tape H' t c (n + 1) → y ∈ xs → Q y H') ∨
   (∃ z : Str, x = .str z ∧ z.length ≠ 0 ∧ z.length < 2 ^ 20 ∧ ∀ H' d, Kp t H H' → Tape H' t c (n + 1) → d ∈ z.cps.toList → Q (.str ⟨#[d]⟩) H'))
section
variable {P : Program} {w : World} {K : PySem.W.Frag} {mg : Str → Option Value} {base : Heap}
theorem scBegin : FnScope ["_law_script"] ["_law_script"] (defScope sBegin) := ⟨rfl, rfl, rfl, by decide +kernel, rfl, by decide +kernel, by decide +kernel⟩
theorem cut63 (ns : List Int) : ∃ ms : List Int, cutV (ns.map V.int) none (some 63) = ms.map V.int ∧ ms.length ≤ 63 := by
  refine ⟨ns.take 63, ?_, ?_⟩
  · unfold cutV
    rw [HT.sIx_none, show HT.sIx (ns.map V.int).length (ns.map V.int).length (some 63) = min 63 (ns.map V.int).length from HT.sIx_nat _ _ 63, List.map_take]
    show List.take _ (List.drop 0 _) = _
    rw [List.drop_zero, Nat.sub_zero]
    by_cases c : 63 ≤ (ns.map V.int).length
    · rw [Nat.min_eq_left c]
    · rw [Nat.min_eq_right (by omega), List.take_length, List.take_of_length_le (by omega)]
  · rw [List.length_take]
    omega
theorem ok_begin (D : Df K mg "_law_begin" sBegin ["_law_script"]) : FnOk P w K mg base CX0 1 D.f D.fd ["_law_script"] (spBegin K) := by
  refine D.F.ok scBegin (fun vs H Q E h => ?_) (fun cdv A outer s H vs Q E hr h => ?_)
  · obtain ⟨a, ns, rfl, _⟩ := h
    rfl
  · obtain ⟨a, ns, rfl, hS, k⟩ := h
    refine ⟨_, pss_one (ps_ret (pe_disp (pps_cons pe_str (pe_orT (pe_slice sl_list (pv 0) po_none (po_some pe_int)) (pe_one (pe_lst (pa_cons pe_int pa_nil)))) (pps_cons pe_str pe_int (pps_cons pe_str pe_int pps_nil))) (by rfl) (by rfl) (fun z => by cases z) (by decide))), ?_⟩
    intro t ht
    have s1 : Same H (upd H t (.dK [])) := same_upd ht
    obtain ⟨ms, em, hm⟩ := cut63 ns
    refine ⟨_, rfl, 63, rfl, a, ns.map V.int, rfl, s1.seq hS, fun c hc => ?_⟩
    have nct : c ≠ t := fun z => by
      rw [z, upd_same] at hc
      cases hc
    rw [em]
    refine ⟨!(ms.map V.int).isEmpty, .inl ⟨_, SqL.of upd_same, rfl⟩, ite2 (fun e => ?_) (fun e => ?_)⟩
    · refine ⟨Eq.trans (upd_ne nct.symm) upd_same, tpd c 0 0, rfl, by show 3 ≤ 15; decide, ?_⟩
      rw [tp_merge]
      refine k _ t c (fun b o eb => ?_) ht (s1.free hc) ⟨ms, 0, 0, upd_same, Eq.trans (upd_ne nct) upd_same, ?_, hm, Nat.le_refl _, Int.le_refl _⟩
      · have nb : b ≠ t := ne_of_none eb ht
        rw [upd_ne nb]
        exact same_upd hc _ _ (s1 _ _ eb)
      · cases ms with
        | nil => cases e
        | cons x r => exact Nat.succ_pos _
    · refine ⟨by show 1 ≤ sizeLine; decide, fun d hd => ?_⟩
      have ndt : d ≠ t := fun z => by
        rw [z, upd_ne nct.symm, upd_same] at hd
        cases hd
      refine ⟨Eq.trans (upd_ne ndt.symm) (Eq.trans (upd_ne nct.symm) upd_same), tpd d 0 0, rfl, by show 3 ≤ 15; decide, ?_⟩
      rw [tp_merge]
      refine k _ t d (fun b o eb => ?_) ht (s1.free ((same_upd hc).free hd)) ⟨[0], 0, 0, upd_same, Eq.trans (upd_ne ndt) upd_same, Nat.succ_pos _, by decide, Nat.le_refl _, Int.le_refl _⟩
      have nb : b ≠ t := ne_of_none eb ht
      rw [upd_ne nb]
      exact same_upd hd _ _ (same_upd hc _ _ (s1 _ _ eb))
theorem scDraw : FnScope ["_law_tape", "_law_many", "_law_place", "_law_count", "_law_cell", "_law_found"] ["_law_tape", "_law_many"] (defScope sDraw) := ⟨rfl, rfl, rfl, by decide +kernel, rfl, by decide +kernel, by decide +kernel⟩
theorem tape_put {H : Hp} {t c : Addr} {cells : List Int} {n p : Nat} {l : Int} {kvs : List (Key × V)} (e : H t = some (.dK kvs)) (hc : H c = some (.lst (cells.map V.int))) (h1 : 0 < cells.length) (h2 : cells.length ≤ 63) (hp : p ≤ n) (hl : 0 ≤ l) :
    Tape (upd H t (.dK (tpd c p l))) t c n := by
  have nct : c ≠ t := ne_of hc e (by intro z; cases z)
  exact ⟨cells, p, l, upd_same, Eq.trans (upd_ne nct) hc, h1, h2, hp, hl⟩
theorem kp_put {H : Hp} {t : Addr} {kvs kvs' : List (Key × V)} (e : H t = some (.dK kvs)) : Kp t H (upd H t (.dK kvs')) := ⟨⟨_, e⟩, ⟨_, upd_same⟩, fun b o n h => (upd_ne n).trans h⟩
theorem ok_draw (D : Df K mg "_law_draw" sDraw ["_law_tape", "_law_many"]) (ml : mg "len" = none) : FnOk P w K mg base CX0 1 D.f D.fd ["_law_tape", "_law_many"] spDraw := by
  refine D.F.ok scDraw (fun vs H Q E h => ?_) (fun cdv A outer s H vs Q E hr h => ?_)
  · obtain ⟨t, c, m, n, rfl, _⟩ := h
    rfl
  · obtain ⟨t, c, m, n, rfl, T, hn, m0, m1, k⟩ := h
    have hu := hu_of hr
    refine ⟨_, C8.pss_cut (ps_if (pt_cmpR op_lt (pe_dget hu (pv 0) pe_str (fun _ _ => rfl)) (pv 1) (nomark _))
        (pss_cons (ps_par (i := 2) (j := 3) rfl scDraw.nd rfl rfl (by decide) rfl rfl (pa_cons (pe_dget hu (pv 0) pe_str (fun _ _ => rfl)) (pa_cons (pe_callB call_len_seq (by rfl) ml PySem.boot_len (pa_cons (pe_dget hu (pv 0) pe_str (fun _ _ => rfl)) pa_nil)) pa_nil)) (by rfl))
        (pss_cons (ps_asg (pe_tup (pa_cons (pe_ix ix_list (pe_dget hu (pv 0) pe_str (fun _ _ => rfl)) (pe_op op_mod (pv 2) (pv 3)) (fun _ _ => rfl)) (pa_cons (pe_op op_add (pv 2) pe_int) pa_nil)))
            (pg_tup rfl (pgs_cons (pg_name (i := 4) scDraw.nd rfl (.inl rfl)) (pgs_cons (pg_sub (pv 0) pe_str (set_dict hu)) pgs_nil))))
        (pss_cons (ps_dput hu (pv 0) pe_str (pe_op op_mod (pe_op op_pow (pe_op op_add (pe_op op_add (pe_op op_mod (pv 4) pe_int) (pe_op op_mul pe_int (pv 2))) pe_int) pe_int) (pe_op op_add (pe_op op_pow pe_int pe_int) pe_int)) rfl)
        (pss_one (ps_if (pw_and (pt_cmpR op_ge (pv 4) (pe_op op_pow pe_int pe_int) (nomark _)) (pw_and1 (pt_cmpR op_lt (pv 2) (pv 3) (nomark _)))).pt
          (pss_one (ps_dput hu (pv 0) pe_str (pe_op op_sub (pv 4) (pe_op op_pow pe_int pe_int)) rfl)) pss_nil))))) pss_nil)
      (pss_cons (ps_asg (pe_tup (pa_cons (pe_op op_mod (pe_dget hu (pv 0) pe_str (fun _ _ => rfl)) (pv 1)) (pa_cons (pe_op op_fdiv (pe_dget hu (pv 0) pe_str (fun _ _ => rfl)) (pv 1)) pa_nil)))
            (pg_tup rfl (pgs_cons (pg_name (i := 5) scDraw.nd rfl (.inl rfl)) (pgs_cons (pg_sub (pv 0) pe_str (set_dict hu)) pgs_nil))))
      (pss_one (ps_ret (pv 5)))), ?_⟩
    have m1' : m < 1073741824 := m1
    obtain ⟨cells, p, l, ht, hc, c0, c63, hp, l0⟩ := T.ex
    refine ⟨fun σ' H' => ∃ y2 y3 y4, σ' = [some (.ref t), some (.int m), y2, y3, y4, none] ∧ Kp t H H' ∧ Tape H' t c (n + 1), ?_, ?_⟩
    · refine ⟨.ref t, rfl, t, .int l, rfl, g_left ht, .int m, rfl, l, m, rfl, rfl, _, rfl, ite2 (fun e => ?_) (fun e => ?_)⟩
      · refine ⟨.ref t, rfl, t, .int p, rfl, g_place ht, .ref t, rfl, t, .ref c, rfl, g_cells ht, c, _, rfl, .inl (SqL.of hc), _, _, rfl, ?_⟩
        have lp : 0 < (cells.map V.int).length := by
          rw [List.length_map]
          exact c0
        have jl : p % (cells.map V.int).length < cells.length := by
          have := Nat.mod_lt p lp
          rw [List.length_map] at this ⊢
          exact this
        have ga : (cells.map V.int)[p % (cells.map V.int).length]? = some (.int cells[p % (cells.map V.int).length]) := by
          rw [List.getElem?_map, List.getElem?_eq_getElem jl]
          rfl
        generalize cells[p % (cells.map V.int).length] = z at ga
        refine ⟨.ref t, rfl, t, .ref c, rfl, g_cells ht, _, rfl, _, rfl, (p : Int), ((cells.map V.int).length : Int), rfl, rfl, by omega, c, _, _, .int z, rfl, rfl, SqL.of hc, at_of (j := p % (cells.map V.int).length) (by rw [Int.natCast_emod]) ga, .int p, rfl, (p : Int), 1, rfl, rfl, by show 2 ≤ sizeLine; decide, fun q hq => ?_⟩
        have s1 : Same H (upd H q (.tup [.int z, .int ((p : Int) + 1)])) := same_upd hq
        have ht1 := s1 _ _ ht
        have hc1 := s1 _ _ hc
        have nct : c ≠ t := ne_of hc ht (by intro z; cases z)
        refine ⟨q, _, rfl, SqT.of upd_same, rfl, _, _, rfl, _, _, rfl, .ref t, rfl, t, _, rfl, p_place ((p : Int) + 1) ht1, rfl, ?_⟩
        have hn' : n < 1099511627776 := hn
        have zm0 : 0 ≤ z % 2147483647 := Int.emod_nonneg _ (by decide)
        have zm1 : z % 2147483647 < 2147483647 := Int.emod_lt_of_pos _ (by decide)
        have b0 : (z % 2147483647 + 69621 * (p : Int) + 48271).natAbs < 2 ^ 64 := by omega
        refine ⟨.int z, rfl, z, 2147483647, rfl, rfl, (by show (0 : Int) < 2147483647; decide), .int p, rfl, 69621, (p : Int), rfl, rfl, .inl ⟨by decide, by decide⟩, _, _, rfl, rfl, _, 48271, rfl, rfl, _, 17, rfl, rfl, ⟨by decide, by decide, b0⟩, 10, 50, rfl, rfl, ⟨by decide, by decide, by decide⟩, _, 151, rfl, rfl, _, _, rfl, rfl, ?_, ?_⟩
        · exact (by decide +kernel : (0 : Int) < 10 ^ (50 : Int).toNat + 151)
        have ht2 : (upd (upd H q (.tup [.int z, .int ((p : Int) + 1)])) t (.dK (tpd c ((p : Int) + 1) l))) t = some (.dK (tpd c ((p : Int) + 1) l)) := upd_same
        refine ⟨.ref t, rfl, t, _, rfl, p_left ((z % 2147483647 + 69621 * (p : Int) + 48271) ^ (17 : Int).toNat % (10 ^ (50 : Int).toNat + 151)) ht2, ?_⟩
        have x0 : 0 ≤ (z % 2147483647 + 69621 * (p : Int) + 48271) ^ (17 : Int).toNat % (10 ^ (50 : Int).toNat + 151) := Int.emod_nonneg _ (by decide +kernel)
        generalize (z % 2147483647 + 69621 * (p : Int) + 48271) ^ (17 : Int).toNat % (10 ^ (50 : Int).toNat + 151) = x17 at x0 ⊢
        have k3 : Kp t H (upd (upd (upd H q (.tup [.int z, .int ((p : Int) + 1)])) t (.dK (tpd c ((p : Int) + 1) l))) t (.dK (tpd c ((p : Int) + 1) x17))) := ((Kp.of ht s1).trans (kp_put ht1)).trans (kp_put ht2)
        have hc3 := k3.at hc (fun _ z => by cases z)
        refine ⟨.int z, rfl, 10, 18, rfl, rfl, ⟨by decide, by decide, by decide⟩, z, _, rfl, rfl, _, rfl, ite2 (fun e2 => ?_) (fun e2 => ?_)⟩
        · refine ⟨.int p, rfl, _, rfl, _, _, rfl, rfl, _, rfl, ite2 (fun e3 => ?_) (fun e3 => ?_)⟩
          · have hz : (0 : Int) ≤ z - 10 ^ (18 : Int).toNat := by
              have e4 : (10 : Int) ^ (18 : Int).toNat ≤ z := of_decide_eq_true e2
              omega
            refine ⟨.int z, rfl, 10, 18, rfl, rfl, ⟨by decide, by decide, by decide⟩, z, _, rfl, rfl, .ref t, rfl, t, _, rfl, p_left (z - 10 ^ (18 : Int).toNat) upd_same, ?_⟩
            exact ⟨_, _, _, rfl, k3.trans (kp_put upd_same), tape_put (p := p + 1) upd_same hc3 c0 c63 (by omega) hz⟩
          · exact ⟨_, _, _, rfl, k3, ⟨cells, p + 1, x17, upd_same, hc3, c0, c63, by omega, x0⟩⟩
        · exact ⟨_, _, _, rfl, k3, ⟨cells, p + 1, x17, upd_same, hc3, c0, c63, by omega, x0⟩⟩
      · exact ⟨none, none, none, rfl, Kp.refl T, T.mono (Nat.le_succ n)⟩
    · rintro σ' H' ⟨y2, y3, y4, rfl, k1, T1⟩
      obtain ⟨cells, p, l, ht, hc, c0, c63, hp, l0⟩ := T1.ex
      refine ⟨.ref t, rfl, t, .int l, rfl, g_left ht, .int m, rfl, l, m, rfl, rfl, m0, .ref t, rfl, t, .int l, rfl, g_left ht, .int m, rfl, l, m, rfl, rfl, ⟨m0, m1⟩, by show 2 ≤ sizeLine; decide, fun q hq => ?_⟩
      have s1 : Same H' (upd H' q (.tup [.int (l % m), .int (l / m)])) := same_upd hq
      have ht1 := s1 _ _ ht
      refine ⟨q, _, rfl, SqT.of upd_same, rfl, _, _, rfl, _, _, rfl, .ref t, rfl, t, _, rfl, p_left (l / m) ht1, rfl, ?_⟩
      refine ⟨_, rfl, k _ _ ((k1.trans (T1.kp s1)).trans (kp_put ht1)) (tape_put ht1 (s1 _ _ hc) c0 c63 hp (Int.ediv_nonneg l0 (by omega))) (Int.emod_nonneg _ (by omega)) (Int.emod_lt_of_pos _ m0)⟩
theorem at_cp {α : Type} {xs : List α} {z : Int} {j : Nat} {v : α} (e : z = (j : Int)) (h : xs[j]? = some v) : atI xs z = some v := by
  rw [e]
  exact atI_nat h
theorem scPick : FnScope ["_law_tape", "_law_items"] ["_law_tape", "_law_items"] (defScope sPick) := ⟨rfl, rfl, rfl, by decide +kernel, rfl, by decide +kernel, by decide +kernel⟩
theorem ok_pick (D : Df K mg "_law_pick" sPick ["_law_tape", "_law_items"]) (Dd : Df K mg "_law_draw" sDraw ["_law_tape", "_law_many"]) (ml : mg "len" = none) : FnOk P w K mg base CX0 2 D.f D.fd ["_law_tape", "_law_items"] (spPick K) := by
  have Gd : FnOk P w K mg base CX0 1 Dd.f Dd.fd ["_law_tape", "_law_many"] spDraw := ok_draw Dd ml
  refine D.F.ok scPick (fun vs H Q E h => ?_) (fun cdv A outer s H vs Q E hr h => ?_)
  · obtain ⟨t, c, n, x, rfl, _⟩ := h
    rfl
  · obtain ⟨t, c, n, x, rfl, T, hn, h⟩ := h
    rcases h with ⟨a, xs, rfl, hx, ne, hl, k⟩ | ⟨z, rfl, ne, hl, k⟩
    · refine ⟨_, pss_one (ps_ret (pe_ix ix_list (pv 1) (pe_call Gd hr (by rfl) Dd.g Dd.F.kp Dd.b .nil pass0 (pa_cons (pv 0) (pa_cons (pe_callB call_len_seq (by rfl) ml PySem.boot_len (pa_cons (pv 1) pa_nil)) pa_nil))) (fun _ _ => rfl))), ?_⟩
      have l0 : 0 < xs.length := List.length_pos_iff.mpr ne
      refine ⟨.ref a, rfl, .ref t, rfl, .ref a, rfl, a, xs, rfl, .inl hx, t, c, _, n, rfl, T, hn, by omega, by omega, fun H' r k1 T1 r0 r1 => ?_⟩
      have rl : r.toNat < xs.length := by omega
      refine ⟨a, xs, r, xs[r.toNat], rfl, rfl, k1.lst hx, at_of (j := r.toNat) (by omega) (List.getElem?_eq_getElem rl), k H' _ k1 T1 (List.getElem_mem rl)⟩
    · refine ⟨_, pss_one (ps_ret (pe_ix ix_str (pv 1) (pe_call Gd hr (by rfl) Dd.g Dd.F.kp Dd.b .nil pass0 (pa_cons (pv 0) (pa_cons (pe_callB call_len_str (by rfl) ml PySem.boot_len (pa_cons (pv 1) pa_nil)) pa_nil))) (fun _ _ => rfl))), ?_⟩
      have zl : z.cps.toList.length = z.length := Array.length_toList
      refine ⟨.str z, rfl, .ref t, rfl, .str z, rfl, z, rfl, ?_, t, c, _, n, rfl, T, hn, by omega, by omega, fun H' r k1 T1 r0 r1 => ?_⟩
      · rw [sizeLine_eq]; omega
      have rl : r.toNat < z.cps.toList.length := by omega
      refine ⟨z, r, z.cps.toList[r.toNat], rfl, rfl, ?_, at_cp (by omega) (List.getElem?_eq_getElem rl), k H' _ k1 T1 (List.getElem_mem rl)⟩
      rw [sizeLine_eq]
      omega
end
end DW
namespace DW
open PySem PySem.Spec PyProof.Rows L2 TL
set_option autoImplicit false
/-! ### texts as lists of codes -/
def one (c : Nat) : Str := ⟨#[c]⟩
theorem tl_one (c : Nat) : tl (one c) = [c] := rfl
theorem tl_inj {x y : Str} (h : tl x = tl y) : x = y := by
  obtain ⟨⟨a⟩⟩ := x
  obtain ⟨⟨b⟩⟩ := y
  have e : a = b := h
  rw [e]
theorem joinL_nil : ∀ l : List (List Nat), joinL [] l = l.flatten
  | [] => rfl
  | [p] => by simp [joinL]
  | p :: q :: r => by
    show p ++ ([] ++ joinL [] (q :: r)) = (p :: q :: r).flatten
    rw [joinL_nil (q :: r)]
    simp
theorem tl_cat (ys : List Str) : tl (Txt.join "" ys) = (ys.map tl).flatten := by
  have e : tl (Str.join "" ys) = joinL (tl "") (ys.map tl) := tl_join "" ys
  rw [join_eq, e, show tl "" = [] from rfl, joinL_nil]
theorem flat_ones (cs : List Nat) : ((cs.map one).map tl).flatten = cs := by
  induction cs with
  | nil => rfl
  | cons c r ih =>
    show [c] ++ ((r.map one).map tl).flatten = c :: r
    rw [ih]
    rfl
theorem lt_ones (x p : Nat) : ltCps (tl (one x)) (tl (one p)) = decide (x < p) := by
  simp [one, ltCps]
theorem sorted_ones : ∀ ys : List Str, (∀ y ∈ ys, ∃ c, y = one c) → ys.Nodup → sortedS ys = true → ∃ cs : List Nat, ys = cs.map one ∧ cs.Pairwise (· < ·)
  | [], _, _, _ => ⟨[], rfl, List.Pairwise.nil⟩
  | [y], h, _, _ => by
    obtain ⟨c, rfl⟩ := h y List.mem_cons_self
    exact ⟨[c], rfl, List.pairwise_singleton _ _⟩
  | y :: z :: r, h, nd, so => by
    obtain ⟨hy, nd'⟩ := List.nodup_cons.mp nd
    obtain ⟨c, rfl⟩ := h y List.mem_cons_self
    obtain ⟨d, rfl⟩ := h z (List.mem_cons_of_mem _ List.mem_cons_self)
    have so' : (!ltCps (tl (one d)) (tl (one c)) && risingS (one d) r) = true := so
    rw [Bool.and_eq_true] at so'
    obtain ⟨cs, e, pw⟩ := sorted_ones (one d :: r) (fun u hu => h u (List.mem_cons_of_mem _ hu)) nd' so'.2
    have lt : c < d := by
      have q := so'.1
      rw [lt_ones] at q
      have n1 : ¬ d < c := by simpa using q
      have n2 : c ≠ d := fun z => hy (by rw [z]; exact List.mem_cons_self)
      omega
    cases cs with
    | nil => cases e
    | cons d' cs =>
      have e1 : one d = one d' := (List.cons.inj e).1
      have e2 : d = d' := by
        have q := congrArg tl e1
        exact (List.cons.inj q).1
      subst e2
      refine ⟨c :: d :: cs, by rw [List.map_cons, ← e], List.pairwise_cons.mpr ⟨fun u hu => ?_, pw⟩⟩
      rcases List.mem_cons.mp hu with q | q
      · omega
      · have := (List.pairwise_cons.mp pw).1 u q
        omega
theorem sum_ones : ∀ ys : List Str, (∀ y ∈ ys, ∃ c, y = one c) → (ys.map (·.length)).sum = ys.length
  | [], _ => rfl
  | y :: r, h => by
    obtain ⟨c, rfl⟩ := h y List.mem_cons_self
    rw [List.map_cons, List.sum_cons, sum_ones r fun u hu => h u (List.mem_cons_of_mem _ hu), List.length_cons]
    show 1 + r.length = r.length + 1
    omega
theorem yes {σ : L2.St} {H : Hp} {F G : Hp → Prop} (h : F H) : tYes σ H (fun b H3 => if b = true then F H3 else G H3) := by
  show (if true = true then F H else G H)
  rw [if_pos rfl]
  exact h
/-- an alphabet -/
def Alph (z : Str) : Prop := (tl z).Pairwise (· < ·) ∧ 1 ≤ (tl z).length ∧ (tl z).length ≤ 3 ∧ ∀ c ∈ tl z, 97 ≤ c ∧ c ≤ 122
def abc : Str := "abcdefghijklmnopqrstuvwxyz"
theorem abc_low : ∀ c ∈ tl abc, 97 ≤ c ∧ c ≤ 122 := by decide +kernel
theorem abc_len : (tl abc).length = 26 := by decide +kernel
theorem al1 : Alph "ab" := by unfold Alph; decide +kernel
theorem al2 : Alph "abc" := by unfold Alph; decide +kernel
theorem al3 : Alph "a" := by unfold Alph; decide +kernel
theorem al4 : Alph "bx" := by unfold Alph; decide +kernel
theorem al5 : Alph "cmz" := by unfold Alph; decide +kernel
theorem alph_of {ds : List Nat} {ls ys : List Str} (h1 : 1 ≤ ds.length) (h3 : ds.length ≤ 3) (low : ∀ c ∈ ds, 97 ≤ c ∧ c ≤ 122) (nd : ls.Nodup) (mem : ∀ k, k ∈ ls ↔ k ∈ ds.map one) (le : ls.length ≤ (ds.map one).length)
    (pm : ys.Perm ls) (so : sortedS ys = true) : Alph (Txt.join "" ys) := by
  have hm : ∀ y ∈ ys, y ∈ ds.map one := fun y hy => (mem y).mp (pm.mem_iff.mp hy)
  obtain ⟨cs, rfl, pw⟩ := sorted_ones ys (fun y hy => by
    obtain ⟨c, _, e⟩ := List.mem_map.mp (hm y hy)
    exact ⟨c, e.symm⟩) (pm.nodup_iff.mpr nd) so
  have e : tl (Txt.join "" (cs.map one)) = cs := by rw [tl_cat, flat_ones]
  have hl : cs.length = ls.length := by
    have q := pm.length_eq
    rw [List.length_map] at q
    exact q
  rw [List.length_map] at le
  unfold Alph
  rw [e]
  refine ⟨pw, ?_, by omega, fun c hc => ?_⟩
  · cases ds with
    | nil => cases h1
    | cons d r =>
      have q : one d ∈ ls := (mem _).mpr List.mem_cons_self
      have q2 : one d ∈ cs.map one := pm.mem_iff.mpr q
      have := List.length_pos_of_mem q2
      rw [List.length_map] at this
      omega
  · obtain ⟨d, hd, e⟩ := List.mem_map.mp (hm (one c) (List.mem_map.mpr ⟨c, hc, rfl⟩))
    have e2 : d = c := by
      have q := congrArg tl e
      exact (List.cons.inj q).1
    rw [← e2]
    exact low d hd
/-! ### what the module's names hold -/
structure Bl (mg : Str → Option Value) : Prop where
  len : mg "len" = none
  range : mg "range" = none
  sorted : mg "sorted" = none
  set : mg "set" = none
def spAlpha : Sp := fun vs H Q _ => ∃ (t c : Addr) (n : Nat), vs = [.ref t] ∧ Tape H t c n ∧ n + 10 < 2 ^ 40 ∧ ∀ H' z, Kp t H H' → Tape H' t c (n + 10) → Alph z → Q (.str z) H'
abbrev DfDraw (K : PySem.W.Frag) (mg : Str → Option Value) := Df K mg "_law_draw" sDraw ["_law_tape", "_law_many"]
abbrev DfPick (K : PySem.W.Frag) (mg : Str → Option Value) := Df K mg "_law_pick" sPick ["_law_tape", "_law_items"]
end DW
namespace DW
open PySem PySem.Spec PyProof.Rows L2 TL
set_option autoImplicit false
section
variable {P : Program} {w : World} {K : PySem.W.Frag} {mg : Str → Option Value} {base : Heap}
theorem scAlpha : FnScope ["_law_tape", "_law_letters", "_law_drawn", "_law_k"] ["_law_tape"] (defScope sAlpha) := ⟨rfl, rfl, rfl, by decide +kernel, rfl, by decide +kernel, by decide +kernel⟩
theorem ok_alpha (D : Df K mg "_law_alphabet" sAlpha ["_law_tape"]) (Dd : DfDraw K mg) (Dp : DfPick K mg) (B : Bl mg) : FnOk P w K mg base CX0 3 D.f D.fd ["_law_tape"] spAlpha := by
  have Gd : FnOk P w K mg base CX0 1 Dd.f Dd.fd ["_law_tape", "_law_many"] spDraw := ok_draw Dd B.len
  have Gp : FnOk P w K mg base CX0 2 Dp.f Dp.fd ["_law_tape", "_law_items"] (spPick K) := ok_pick Dp Dd B.len
  refine D.F.ok scAlpha (fun vs H Q E h => ?_) (fun cdv A outer s H vs Q E hr h => ?_)
  · obtain ⟨t, c, n, rfl, _⟩ := h
    rfl
  · obtain ⟨t, c, n, rfl, T, hn, k⟩ := h
    have hr1 : Room 1 _ := hr.mono (by decide)
    refine ⟨_, pss_cons (ps_set (i := 1) scAlpha.nd rfl (Or.inr rfl) pe_str)
      (pss_cons (ps_setLc (i := 2) (own := [("_law_k", 3)]) (g := gName 3) (tt := tYes) rfl scAlpha.nd rfl rfl (sw_true rfl rfl rfl (by decide +kernel))
        (pi_range1 rfl B.range (pa_cons (pe_op op_add pe_int (pe_call Gd hr1 (by rfl) Dd.g Dd.F.kp Dd.b .nil pass0 (pa_cons (pv 0) (pa_cons pe_int pa_nil)))) pa_nil))
        (blkOk_by (N := ["_law_tape", "_law_letters", "_law_drawn", "_law_k"]) (sc := defScope sAlpha) (by decide +kernel)) (fun _ _ _ _ _ => pg_name (i := 3) scAlpha.nd rfl (Or.inl rfl)) (fun _ _ _ _ _ => pts_nil)
        (fun _ _ _ _ _ => pe_ix ix_str (pv 1) (pe_call Gd hr1 (by rfl) Dd.g Dd.F.kp Dd.b .nil pass0 (pa_cons (pv 0) (pa_cons pe_int pa_nil))) (fun _ _ => rfl)))
      (pss_one (ps_ret (pe_call Gp hr (by rfl) Dp.g Dp.F.kp Dp.b .nil pass0 (pa_cons (pv 0) (pa_cons
        (pe_op op_cat (pe_lst (pa_cons pe_str (pa_cons pe_str (pa_cons pe_str (pa_cons pe_str (pa_cons pe_str pa_nil))))))
          (pe_op op_rep (pe_lst (pa_cons (pe_join pe_str (pe_callB (TX.cr_sortTx rfl) (by rfl) B.sorted (by decide +kernel) (pa_cons (pe_callTy (TX.cr_setL rfl) (by rfl) B.set (by decide +kernel) (pa_cons (pv 2) pa_nil)) pa_nil))) pa_nil)) pe_int)) pa_nil)))))), ?_⟩
    refine ⟨.ref t, rfl, t, c, 3, n, rfl, T, by omega, by decide, by decide, fun H1 r k1 T1 r0 r1 => ?_⟩
    refine ⟨1, r, rfl, rfl, 1 + r, rfl, by omega, by omega, fun D hD => ?_⟩
    have D1 := T1.ne1 hD
    have D2 := T1.ne2 hD
    have D0 := k1.gone hD
    refine lc_range (lo := 0) (n := (1 + r).toNat) (fun i H' => ∃ ds : List Nat, ds.length = i ∧ (∀ c ∈ ds, 97 ≤ c ∧ c ≤ 122) ∧ H' D = some (.lst ((ds.map one).map V.str)) ∧ Kp t H H' ∧ Tape H' t c (n + 1 + i)) ?_ ?_ ?_
    · exact ⟨[], rfl, fun c hc => (nomatch hc), upd_same, k1.put D0 D1, T1.upd D1 D2⟩
    · rintro i G hi ⟨ds, dl, low, gD, kG, TG⟩
      refine ⟨rfl, yes ?_⟩
      refine ⟨.str abc, rfl, .ref t, rfl, t, c, 26, n + 1 + i, rfl, TG, by omega, by decide, by decide, fun H4 q k4 T4 q0 q1 => ?_⟩
      have ql : q.toNat < (tl abc).length := by
        rw [abc_len]
        omega
      have gD4 := k4.at gD (fun _ z => by cases z)
      refine ⟨abc, q, (tl abc)[q.toNat], rfl, rfl, by decide +kernel, at_cp (j := q.toNat) (by omega) (List.getElem?_eq_getElem ql), _, gD4, ?_, ?_⟩
      · rw [List.length_map, List.length_map, dl, sizeLine_eq]
        omega
      · refine ⟨ds ++ [(tl abc)[q.toNat]], by rw [List.length_append, dl]; rfl, fun c hc => ?_, ?_, ?_, ?_⟩
        · rcases List.mem_append.mp hc with z | z
          · exact low c z
          · rw [List.mem_singleton.mp z]
            exact abc_low _ (List.getElem_mem ql)
        · rw [upd_same, List.map_append, List.map_append]
          rfl
        · exact (kG.trans k4).put D0 D1
        · exact T4.upd D1 D2
    · rintro G ⟨ds, dl, low, gD, kG, TG⟩
      refine ⟨.ref t, rfl, by show 5 ≤ sizeLine; decide, fun l1 e1 => ?_⟩
      have s1 := same_upd (o := .lst [V.str "ab", V.str "abc", V.str "a", V.str "bx", V.str "cmz"]) e1
      refine ⟨⟨_, rfl⟩, .ref D, rfl, D, ds.map one, rfl, SqL.of (s1 _ _ gD), ?_, fun a ls ea nd mem le => ?_⟩
      · rw [List.length_map, dl]
        unfold scanBound
        omega
      have s2 := same_upd (o := TX.SetTx P w a ls) ea
      refine ⟨a, ls, rfl, upd_same, ?_, fun ys p pm so ep => ?_⟩
      · rw [List.length_map] at le
        omega
      have al := alph_of (by omega) (by omega) low nd mem le pm so
      have s3 := same_upd (o := .lst (ys.map V.str)) ep
      refine ⟨"", p, ys, rfl, rfl, .inl (SqL.of upd_same), ?_, by show 1 ≤ sizeLine; decide, fun l2 e2 => ?_⟩
      · rw [sum_ones ys fun y hy => ?_]
        · rw [pm.length_eq]
          rw [List.length_map] at le
          show ls.length + ls.length * 0 ≤ 16777216
          omega
        · obtain ⟨u, _, e⟩ := List.mem_map.mp ((mem y).mp (pm.mem_iff.mp hy))
          exact ⟨u, e.symm⟩
      have s4 := same_upd (o := .lst [V.str (Txt.join "" ys)]) e2
      refine ⟨l2, 5, _, rfl, rfl, upd_same, by decide, by decide, by show 1 * 5 ≤ sizeLine; decide, fun l3 e3 => ?_⟩
      have s5 := same_upd (o := .lst (List.replicate (5 : Int).toNat [V.str (Txt.join "" ys)]).flatten) e3
      refine ⟨l1, l3, _, _, rfl, rfl, s5 _ _ (s4 _ _ (s3 _ _ (s2 _ _ upd_same))), upd_same, by show 5 + 5 ≤ sizeLine; decide, fun l4 e4 => ?_⟩
      have s6 := same_upd (o := .lst ([V.str "ab", V.str "abc", V.str "a", V.str "bx", V.str "cmz"] ++ (List.replicate (5 : Int).toNat [V.str (Txt.join "" ys)]).flatten)) e4
      have sa := ((((s1.trans s2).trans s3).trans s4).trans s5).trans s6
      refine ⟨t, c, n + 1 + (1 + r).toNat, .ref l4, rfl, TG.same sa, by omega, .inl ⟨l4, _, rfl, SqL.of upd_same, by simp, by show 10 < 2 ^ 30; decide, fun H' y k' T' hy => ?_⟩⟩
      have hy' : ∃ z, y = V.str z ∧ Alph z := by
        rcases List.mem_append.mp hy with q | q
        · simp only [List.mem_cons, List.not_mem_nil, or_false] at q
          rcases q with q | q | q | q | q
          · exact ⟨_, q, al1⟩
          · exact ⟨_, q, al2⟩
          · exact ⟨_, q, al3⟩
          · exact ⟨_, q, al4⟩
          · exact ⟨_, q, al5⟩
        · obtain ⟨u, hu, hy⟩ := List.mem_flatten.mp q
          rw [List.eq_of_mem_replicate hu] at hy
          exact ⟨_, List.mem_singleton.mp hy, al⟩
      obtain ⟨z, rfl, az⟩ := hy'
      exact k H' z ((kG.trans (TG.kp sa)).trans k') (T'.mono (by omega)) az
end
end DW
namespace DW
open PySem PySem.Spec PyProof.Rows L2 TL
set_option autoImplicit false
/-! ### text * int, repr(text) -/
theorem foldl_app : ∀ (l : List (Array Nat)) (acc : Array Nat), (l.foldl (· ++ ·) acc).toList = acc.toList ++ (l.map Array.toList).flatten
  | [], acc => by simp
  | a :: r, acc => by
    rw [List.foldl_cons, foldl_app r, Array.toList_append, List.map_cons, List.flatten_cons, List.append_assoc]
theorem tl_mul (z : Str) (k : Int) : tl (Txt.mul z k) = (List.replicate k.toNat (tl z)).flatten := by
  unfold Txt.mul
  by_cases h : k < 1
  · rw [if_pos h, show k.toNat = 0 by omega]
    rfl
  · rw [if_neg h]
    by_cases h2 : (k == 1 || z.length == 0) = true
    · rw [if_pos h2]
      rw [Bool.or_eq_true] at h2
      rcases h2 with e | e
      · rw [eq_of_beq e]
        simp
      · have e0 : tl z = [] := List.length_eq_zero_iff.mp (by rw [Array.length_toList]; exact eq_of_beq e)
        rw [e0]
        simp
    · rw [if_neg h2]
      show ((List.replicate k.toNat z.cps).foldl (· ++ ·) #[]).toList = _
      rw [foldl_app, List.map_replicate]
      simp
section
variable {X : Cx}
def rRepS : R2 := fun x y H Q => ∃ (z : Str) (k : Int), x = .str z ∧ y = .int k ∧ 0 ≤ k ∧ k ≤ 1000 ∧ z.length ≤ 1000 ∧ ∀ r : Str, tl r = (List.replicate k.toNat (tl z)).flatten → Q (.str r) H
theorem op_repS : OpR X (binaryOp .Mult) rRepS := by
  intro pins s σ H x y v u Q I rx ry h
  obtain ⟨z, k, rfl, rfl, k0, k1, zl, q⟩ := h
  obtain ⟨t, rfl⟩ := rx
  obtain ⟨t2, rfl⟩ := ry
  have pr : z.length * k.toNat ≤ 1000 * 1000 := Nat.mul_le_mul zl (by omega)
  refine SB.mul ⟨?_, fun h1 _ h3 => ?_, fun _ _ => ?_⟩ fun t' tk => ⟨.str (Txt.mul z k), H, I.tok _, ⟨_, rfl⟩, q _ (tl_mul z k)⟩
  · have a : ¬ k < -(2 ^ 63) := by omega
    have b : ¬ k ≥ 2 ^ 63 := by omega
    simp [a, b]
    omega
  · have e : (z.length : Int) ≤ (2 ^ 63 - 1) / k := by
      rw [Int.le_ediv_iff_mul_le (by omega)]
      have : ((z.length * k.toNat : Nat) : Int) ≤ 1000 * 1000 := by exact_mod_cast pr
      rw [Int.natCast_mul, Int.toNat_of_nonneg k0] at this
      omega
    omega
  · unfold Builtin.Str.tooLong
    rw [sizeLine_eq]
    simp
    omega
theorem cr_reprS : CallR X (.builtin "repr") (fun xs H Q => ∃ y : Str, xs = [.str y] ∧ (reprText y).length ≤ sizeLine ∧ Q (.str (reprText y)) H) := by
  intro pins s σ H xs us Q I r h
  obtain ⟨y, rfl, hz, q⟩ := h
  obtain ⟨u, rfl, t, rfl⟩ := vals1 r
  exact PySem.P.repr_of_str ⟨.str _, H, I.tok _, ⟨_, rfl⟩, q⟩ hz
end
theorem rc_le : ∀ c, c < 128 → (Builtin.Str.reprChar 34 c).length ≤ 4 ∧ (Builtin.Str.reprChar 39 c).length ≤ 4 := by decide +kernel
theorem rq (x : Str) : reprQuote x = 34 ∨ reprQuote x = 39 := by
  unfold reprQuote
  split
  · exact .inl rfl
  · exact .inr rfl
theorem repr_fold (q : Nat) (hq : q = 34 ∨ q = 39) : ∀ (l : List Nat) (n : Nat), (∀ c ∈ l, c < 128) → l.foldl (fun n c => n + (Builtin.Str.reprChar q c).length) n ≤ n + 4 * l.length
  | [], n, _ => by simp
  | c :: r, n, h => by
    have h1 := rc_le c (h c List.mem_cons_self)
    have h2 : (Builtin.Str.reprChar q c).length ≤ 4 := by
      rcases hq with e | e
      · rw [e]; exact h1.1
      · rw [e]; exact h1.2
    have ih := repr_fold q hq r (n + (Builtin.Str.reprChar q c).length) fun d hd => h d (List.mem_cons_of_mem _ hd)
    rw [List.foldl_cons, List.length_cons]
    omega
theorem repr_le {x : Str} (h : ∀ c ∈ tl x, c < 128) : (reprText x).length ≤ 2 + 4 * (tl x).length := by
  rw [← reprLen_eq, ← Array.foldl_toList]
  exact repr_fold _ (rq x) _ _ h
/-! ### factors, products -/
abbrev Fc := Bool × Str
def kd (b : Bool) : Str := if b then "star" else "opt"
def IsF (K : PySem.W.Frag) (H : Hp) (v : V) (f : Fc) : Prop := ∃ a, v = .ref a ∧ SqT K H a [.str (kd f.1), .str f.2]
def FOk (z : Str) (f : Fc) : Prop := tl f.2 ≠ [] ∧ (tl f.2).Sublist (tl z) ∧ (f.1 = false → (tl f.2).length = 1)
inductive IsFs (K : PySem.W.Frag) (H : Hp) : List V → List Fc → Prop where
  | nil : IsFs K H [] []
  | cons {v : V} {f : Fc} {vs : List V} {fs : List Fc} (h : IsF K H v f) (r : IsFs K H vs fs) : IsFs K H (v :: vs) (f :: fs)
theorem IsFs.snoc {K : PySem.W.Frag} {H : Hp} {v : V} {f : Fc} : ∀ {vs : List V} {fs : List Fc}, IsFs K H vs fs → IsF K H v f → IsFs K H (vs ++ [v]) (fs ++ [f])
  | _, _, .nil, h => .cons h .nil
  | _, _, .cons a r, h => .cons a (r.snoc h)
theorem IsFs.len {K : PySem.W.Frag} {H : Hp} : ∀ {vs : List V} {fs : List Fc}, IsFs K H vs fs → vs.length = fs.length
  | _, _, .nil => rfl
  | _, _, .cons _ r => by rw [List.length_cons, List.length_cons, r.len]
theorem IsFs.get {K : PySem.W.Frag} {H : Hp} : ∀ {vs : List V} {fs : List Fc}, IsFs K H vs fs → ∀ (i : Nat) (v : V), vs[i]? = some v → ∃ f, fs[i]? = some f ∧ IsF K H v f
  | _, _, .nil, i, v, h => by simp at h
  | _, _, .cons a r, 0, v, h => by
    have e := Option.some.inj h
    subst e
    exact ⟨_, rfl, a⟩
  | _, _, .cons a r, i + 1, v, h => r.get i v h
theorem IsF.mono {K : PySem.W.Frag} {H H' : Hp} {v : V} {f : Fc} (h : IsF K H v f) (m : ∀ b xs, SqT K H b xs → SqT K H' b xs) : IsF K H' v f := by
  obtain ⟨a, e, q⟩ := h
  exact ⟨a, e, m _ _ q⟩
theorem IsFs.mono {K : PySem.W.Frag} {H H' : Hp} (m : ∀ b xs, SqT K H b xs → SqT K H' b xs) : ∀ {vs : List V} {fs : List Fc}, IsFs K H vs fs → IsFs K H' vs fs
  | _, _, .nil => .nil
  | _, _, .cons a r => .cons (a.mono m) (r.mono m)
theorem same_tup {H H' : Hp} {K : PySem.W.Frag} (s : Same H H') (b : Addr) (xs : List V) (h : SqT K H b xs) : SqT K H' b xs := by
  rcases h with (h | ⟨o, h⟩) | h
  · exact .inl (.inl (s _ _ h))
  · exact .inl (.inr ⟨o, s _ _ h⟩)
  · exact .inr h
theorem kp_tup {t : Addr} {H H' : Hp} {K : PySem.W.Frag} (k : Kp t H H') (b : Addr) (xs : List V) (h : SqT K H b xs) : SqT K H' b xs := k.tup h
/-- a store at what is no tuple -/
theorem upd_tup {H : Hp} {D : Addr} {xs0 : List V} {o : HO} {K : PySem.W.Frag} (hD : H D = some (.lst xs0)) (b : Addr) (xs : List V) (h : SqT K H b xs) : SqT K (upd H D o) b xs := by
  rcases h with (h | ⟨u, h⟩) | h
  · exact .inl (.inl ((upd_ne (ne_of h hD (by intro z; cases z))).trans h))
  · exact .inl (.inr ⟨u, (upd_ne (ne_of h hD (by intro z; cases z))).trans h⟩)
  · exact .inr h
def IsP (K : PySem.W.Frag) (H : Hp) (v : V) (fs : List Fc) : Prop := ∃ a xs, v = .ref a ∧ SqT K H a xs ∧ IsFs K H xs fs
theorem IsP.mono {K : PySem.W.Frag} {H H' : Hp} {v : V} {fs : List Fc} (h : IsP K H v fs) (m : ∀ b xs, SqT K H b xs → SqT K H' b xs) : IsP K H' v fs := by
  obtain ⟨a, xs, e, q, r⟩ := h
  exact ⟨a, xs, e, m _ _ q, r.mono m⟩
def spFactor (K : PySem.W.Frag) : Sp := fun vs H Q _ => ∃ (t c : Addr) (n : Nat) (z : Str), vs = [.ref t, .str z] ∧ Tape H t c n ∧ n + 10 < 2 ^ 40 ∧ Alph z ∧ ∀ H' v f, Kp t H H' → Tape H' t c (n + 10) → IsF K H' v f → FOk z f → Q v H'
def spProduct (K : PySem.W.Frag) : Sp := fun vs H Q _ => ∃ (t c : Addr) (n : Nat) (z : Str) (m : Int), vs = [.ref t, .str z, .int m] ∧ Tape H t c n ∧ n + 1000 < 2 ^ 40 ∧ Alph z ∧ 0 ≤ m ∧ m ≤ 50 ∧
  ∀ H' v fs, Kp t H H' → Tape H' t c (n + 1000) → IsP K H' v fs → (∀ f ∈ fs, FOk z f) → (fs.length : Int) ≤ m → Q v H'
section
variable {P : Program} {w : World} {K : PySem.W.Frag} {mg : Str → Option Value} {base : Heap}
theorem scFactor : FnScope ["_law_tape", "_law_alphabet_here", "_law_letters", "_law_letter"] ["_law_tape", "_law_alphabet_here"] (defScope sFactor) := ⟨rfl, rfl, rfl, by decide +kernel, rfl, by decide +kernel, by decide +kernel⟩
theorem ok_factor (D : Df K mg "_law_factor" sFactor ["_law_tape", "_law_alphabet_here"]) (Dd : DfDraw K mg) (Dp : DfPick K mg) (B : Bl mg) : FnOk P w K mg base CX0 3 D.f D.fd ["_law_tape", "_law_alphabet_here"] (spFactor K) := by
  have Gd : FnOk P w K mg base CX0 1 Dd.f Dd.fd ["_law_tape", "_law_many"] spDraw := ok_draw Dd B.len
  have Gp : FnOk P w K mg base CX0 2 Dp.f Dp.fd ["_law_tape", "_law_items"] (spPick K) := ok_pick Dp Dd B.len
  refine D.F.ok scFactor (fun vs H Q E h => ?_) (fun cdv A outer s H vs Q E hr h => ?_)
  · obtain ⟨t, c, n, z, rfl, _⟩ := h
    rfl
  · obtain ⟨t, c, n, z, rfl, T, hn, al, k⟩ := h
    have hr1 : Room 1 _ := hr.mono (by decide)
    have zl : z.length = (tl z).length := (Array.length_toList).symm
    obtain ⟨pw, l1, l3, low⟩ := al
    refine ⟨_, pss_cons (ps_if (pt_cmpR op_gt (pe_call Gd hr1 (by rfl) Dd.g Dd.F.kp Dd.b .nil pass0 (pa_cons (pv 0) (pa_cons pe_int pa_nil))) pe_int (nomark _))
        (pss_one (ps_ret (pe_tup (pa_cons pe_str (pa_cons (pe_call Gp hr (by rfl) Dp.g Dp.F.kp Dp.b .nil pass0 (pa_cons (pv 0) (pa_cons (pv 1) pa_nil))) pa_nil))))) pss_nil)
      (pss_cons (ps_set (i := 2) scFactor.nd rfl (Or.inl rfl) (pe_join pe_str (pe_lc (own := [("_law_letter", 3)]) (g := gName 3) rfl scFactor.nd (pi_str (pv 1))
          (blkOk_by (N := ["_law_tape", "_law_alphabet_here", "_law_letters", "_law_letter"]) (sc := defScope sFactor) (by decide +kernel)) (fun _ _ _ _ _ => pg_name (i := 3) scFactor.nd rfl (Or.inl rfl))
          (fun _ _ _ _ _ => pts_one (pt_cmpR op_eq (pe_call Gd hr1 (by rfl) Dd.g Dd.F.kp Dd.b .nil pass0 (pa_cons (pv 0) (pa_cons pe_int pa_nil))) pe_int (nomark _))) (fun _ _ _ _ _ => pv 3))))
      (pss_one (ps_ret (pe_tup (pa_cons pe_str (pa_cons (pe_ifExp (pt_cmpR op_ne (pv 2) pe_str (nomark _)) (pv 2) (pe_call Gp hr (by rfl) Dp.g Dp.F.kp Dp.b .nil pass0 (pa_cons (pv 0) (pa_cons (pv 1) pa_nil)))) pa_nil)))))), ?_⟩
    refine ⟨.ref t, rfl, t, c, 3, n, rfl, T, by omega, by decide, by decide, fun H1 r k1 T1 r0 r1 => ?_⟩
    refine ⟨r, 0, rfl, rfl, _, rfl, ite2 (fun e => ?_) (fun e => ?_)⟩
    · refine ⟨.ref t, rfl, .str z, rfl, t, c, n + 1, .str z, rfl, T1, by omega, .inr ⟨z, rfl, by omega, by omega, fun H2 d k2 T2 hd => ?_⟩⟩
      refine ⟨by show 2 ≤ sizeLine; decide, fun p hp => ?_⟩
      have s3 := same_upd (o := .tup [.str "opt", .str ⟨#[d]⟩]) hp
      exact k _ _ (false, one d) ((k1.trans k2).trans (T2.kp s3)) ((T2.same s3).mono (by omega)) ⟨p, rfl, SqT.of upd_same⟩ ⟨by simp [one], by show [d].Sublist _; exact List.singleton_sublist.mpr hd, fun _ => rfl⟩
    · refine ⟨⟨_, rfl⟩, .str z, rfl, z, rfl, fun D hD => ?_⟩
      have D1 := T1.ne1 hD
      have D2 := T1.ne2 hD
      have D0 := k1.gone hD
      have zs : z.cps.size = (tl z).length := (Array.length_toList).symm
      refine lc_it walk_str (fun i H' => ∃ ds : List Nat, ds.Sublist ((tl z).take i) ∧ H' D = some (.lst ((ds.map one).map V.str)) ∧ Kp t H H' ∧ Tape H' t c (n + 1 + i)) ?_ (fun _ _ _ _ => trivial) ?_ ?_
      · exact ⟨[], List.nil_sublist _, upd_same, k1.put D0 D1, T1.upd D1 D2⟩
      · rintro i x G G' hi ⟨ds, sub, gD, kG, TG⟩ ⟨rfl, d, hd, rfl⟩
        have hd' : (tl z)[i]? = some d := by rw [Array.getElem?_toList]; exact hd
        have tk : (tl z).take (i + 1) = (tl z).take i ++ [d] := by rw [List.take_add_one, hd'] <;> rfl
        have dl : ds.length ≤ 3 := Nat.le_trans (Nat.le_trans sub.length_le (List.length_take_le' ..)) l3
        refine ⟨rfl, .ref t, rfl, t, c, 2, n + 1 + i, rfl, TG, by omega, by decide, by decide, fun H4 q k4 T4 q0 q1 => ?_⟩
        have gD4 := k4.at gD (fun _ z => by cases z)
        refine ⟨rfl, _, rfl, ite2 (fun e2 => ?_) (fun e2 => ?_)⟩
        · refine ⟨_, rfl, _, gD4, ?_, ds ++ [d], ?_, ?_, (kG.trans k4).put D0 D1, T4.upd D1 D2⟩
          · rw [List.length_map, List.length_map, sizeLine_eq]
            omega
          · rw [tk]
            exact sub.append (List.Sublist.refl _)
          · rw [upd_same, List.map_append, List.map_append]
            rfl
        · refine ⟨ds, ?_, gD4, kG.trans k4, T4⟩
          rw [tk]
          exact sub.trans (List.sublist_append_left _ _)
      · rintro G ⟨ds, sub, gD, kG, TG⟩
        have sub' : ds.Sublist (tl z) := sub.trans (List.take_sublist _ _)
        have dl : ds.length ≤ 3 := Nat.le_trans sub'.length_le l3
        refine ⟨"", D, ds.map one, rfl, rfl, .inl (SqL.of gD), ?_, ?_⟩
        · rw [sum_ones _ fun y hy => ?_, List.length_map]
          · show ds.length + ds.length * 0 ≤ 16777216
            omega
          · obtain ⟨u, _, e⟩ := List.mem_map.mp hy
            exact ⟨u, e.symm⟩
        have ej : tl (Txt.join "" (ds.map one)) = ds := by rw [tl_cat, flat_ones]
        refine ⟨.str (Txt.join "" (ds.map one)), rfl, rfl, _, rfl, ite2 (fun e2 => ?_) (fun e2 => ?_)⟩
        · refine ⟨_, rfl, by show 2 ≤ sizeLine; decide, fun p hp => ?_⟩
          have s3 := same_upd (o := .tup [.str "star", .str (Txt.join "" (ds.map one))]) hp
          refine k _ _ (true, Txt.join "" (ds.map one)) (kG.trans (TG.kp s3)) ((TG.same s3).mono (by omega)) ⟨p, rfl, SqT.of upd_same⟩ ⟨?_, by rw [ej]; exact sub', fun z => by cases z⟩
          intro z0
          have e3 : Txt.join "" (ds.map one) = ("" : Str) := tl_inj z0
          rw [e3] at e2
          exact absurd e2 (by decide +kernel)
        · refine ⟨.ref t, rfl, .str z, rfl, t, c, n + 1 + z.cps.size, .str z, rfl, TG, by omega, .inr ⟨z, rfl, by omega, by omega, fun H2 d k2 T2 hd => ?_⟩⟩
          refine ⟨by show 2 ≤ sizeLine; decide, fun p hp => ?_⟩
          have s3 := same_upd (o := .tup [.str "star", .str ⟨#[d]⟩]) hp
          exact k _ _ (true, one d) ((kG.trans k2).trans (T2.kp s3)) ((T2.same s3).mono (by omega)) ⟨p, rfl, SqT.of upd_same⟩ ⟨by simp [one], by show [d].Sublist _; exact List.singleton_sublist.mpr hd, fun z => by cases z⟩
theorem scProduct : FnScope ["_law_tape", "_law_alphabet_here", "_law_longest", "_law_k"] ["_law_tape", "_law_alphabet_here", "_law_longest"] (defScope sProduct) := ⟨rfl, rfl, rfl, by decide +kernel, rfl, by decide +kernel, by decide +kernel⟩
theorem ok_product (D : Df K mg "_law_product" sProduct ["_law_tape", "_law_alphabet_here", "_law_longest"]) (Df0 : Df K mg "_law_factor" sFactor ["_law_tape", "_law_alphabet_here"]) (Dd : DfDraw K mg) (Dp : DfPick K mg) (B : Bl mg) (mt : mg "tuple" = none) :
    FnOk P w K mg base CX0 4 D.f D.fd ["_law_tape", "_law_alphabet_here", "_law_longest"] (spProduct K) := by
  have Gd : FnOk P w K mg base CX0 1 Dd.f Dd.fd ["_law_tape", "_law_many"] spDraw := ok_draw Dd B.len
  have Gf : FnOk P w K mg base CX0 3 Df0.f Df0.fd ["_law_tape", "_law_alphabet_here"] (spFactor K) := ok_factor Df0 Dd Dp B
  refine D.F.ok scProduct (fun vs H Q E h => ?_) (fun cdv A outer s H vs Q E hr h => ?_)
  · obtain ⟨t, c, n, z, m, rfl, _⟩ := h
    rfl
  · obtain ⟨t, c, n, z, m, rfl, T, hn, al, m0, m1, k⟩ := h
    have hr1 : Room 1 _ := hr.mono (by decide)
    refine ⟨_, pss_one (ps_ret (pe_callTy call_tuple_of (by rfl) mt (by decide +kernel) (pa_cons (pe_lc (own := [("_law_k", 3)]) (g := gName 3) rfl scProduct.nd
        (pi_range1 rfl B.range (pa_cons (pe_call Gd hr1 (by rfl) Dd.g Dd.F.kp Dd.b .nil pass0 (pa_cons (pv 0) (pa_cons (pe_op op_add (pv 2) pe_int) pa_nil))) pa_nil))
        (blkOk_by (N := ["_law_tape", "_law_alphabet_here", "_law_longest", "_law_k"]) (sc := defScope sProduct) (by decide +kernel)) (fun _ _ _ _ _ => pg_name (i := 3) scProduct.nd rfl (Or.inl rfl)) (fun _ _ _ _ _ => pts_nil)
        (fun _ _ _ _ _ => pe_call Gf hr (by rfl) Df0.g Df0.F.kp Df0.b .nil pass0 (pa_cons (pv 0) (pa_cons (pv 1) pa_nil)))) pa_nil))), ?_⟩
    refine ⟨.ref t, rfl, .int m, rfl, m, 1, rfl, rfl, t, c, m + 1, n, rfl, T, by omega, by omega, by omega, fun H1 r k1 T1 r0 r1 => ?_⟩
    refine ⟨r, rfl, by omega, by omega, fun D hD => ?_⟩
    have D1 := T1.ne1 hD
    have D2 := T1.ne2 hD
    have D0 := k1.gone hD
    refine lc_range (lo := 0) (n := r.toNat) (fun i H' => ∃ (xs : List V) (fs : List Fc), fs.length = i ∧ H' D = some (.lst xs) ∧ IsFs K H' xs fs ∧ (∀ f ∈ fs, FOk z f) ∧ Kp t H H' ∧ Tape H' t c (n + 1 + 10 * i)) ?_ ?_ ?_
    · exact ⟨[], [], rfl, upd_same, .nil, fun f hf => (nomatch hf), k1.put D0 D1, T1.upd D1 D2⟩
    · rintro i G hi ⟨xs, fs, fl, gD, iF, ok, kG, TG⟩
      refine ⟨rfl, yes ?_⟩
      refine ⟨.ref t, rfl, .str z, rfl, t, c, n + 1 + 10 * i, z, rfl, TG, by omega, al, fun H4 v f k4 T4 isf fok => ?_⟩
      have gD4 := k4.at gD (fun _ z => by cases z)
      have iF4 := iF.mono (kp_tup k4)
      refine ⟨xs, gD4, ?_, xs ++ [v], fs ++ [f], by rw [List.length_append, fl]; rfl, upd_same, (iF4.snoc isf).mono (upd_tup gD4), fun g hg => ?_, (kG.trans k4).put D0 D1, (T4.upd D1 D2).mono (by omega)⟩
      · rw [iF.len, fl, sizeLine_eq]
        omega
      · rcases List.mem_append.mp hg with q | q
        · exact ok g q
        · rw [List.mem_singleton.mp q]
          exact fok
    · rintro G ⟨xs, fs, fl, gD, iF, ok, kG, TG⟩
      refine ⟨D, xs, rfl, .inl ⟨SqL.of gD, fun p hp => ?_⟩⟩
      have s3 := same_upd (o := .tup xs) hp
      exact k _ _ fs (kG.trans (TG.kp s3)) ((TG.same s3).mono (by omega)) ⟨p, xs, rfl, SqT.of upd_same, iF.mono (same_tup s3)⟩ ok (by omega)
end
end DW
namespace DW
open PySem PySem.Spec PyProof.Rows L2 TL
set_option autoImplicit false
def spSame : Sp := fun vs H Q _ => ∃ (a b : Bool), vs = [.bl a, .bl b] ∧ Q (.bl (decide (a = b))) H
section
variable {P : Program} {w : World} {K : PySem.W.Frag} {mg : Str → Option Value} {base : Heap}
theorem scSame : FnScope ["_law_found", "_law_due"] ["_law_found", "_law_due"] (defScope sLSame) := ⟨rfl, rfl, rfl, by decide +kernel, rfl, by decide +kernel, by decide +kernel⟩
theorem ok_same (D : Df K mg "_law_same" sLSame ["_law_found", "_law_due"]) : FnOk P w K mg base CX0 1 D.f D.fd ["_law_found", "_law_due"] spSame := by
  refine D.F.ok scSame (fun vs H Q E h => ?_) (fun cdv A outer s H vs Q E hr h => ?_)
  · obtain ⟨a, b, rfl, _⟩ := h
    rfl
  · obtain ⟨a, b, rfl, k⟩ := h
    refine ⟨_, pss_one (ps_ret (pe_ifExp (pt_val (pv 1)) (pe_cmpR op_isBl (pv 0) pe_bl (nomark _)) (pe_cmpR op_isBl (pv 0) pe_bl (nomark _)))), ?_⟩
    refine ⟨.bl b, rfl, b, rfl, ite2 (fun e => ?_) (fun e => ?_)⟩
    · refine ⟨.bl a, rfl, a, true, rfl, rfl, ?_⟩
      rw [e] at k
      exact k
    · refine ⟨.bl a, rfl, a, false, rfl, rfl, ?_⟩
      have e' : b = false := by simpa using e
      rw [e'] at k
      exact k
end
end DW
/-! is_ascending, is_alphabet, is_word -/
namespace DW
open PySem PySem.Spec PyProof.Rows L2 TL
set_option autoImplicit false
def ascB (l : List Nat) : Bool := (l.zip (l.drop 1)).all fun p => decide (p.1 < p.2)
def lowB (c : Nat) : Bool := decide (97 ≤ c) && decide (c ≤ 122)
def alphB (l : List Nat) : Bool := decide (1 ≤ l.length) && decide (l.length ≤ 3) && (l.all lowB && ascB l)
theorem lt1 (c d : Nat) : decide ([c] < [d]) = decide (c < d) := by
  rw [decide_eq_decide]
  constructor
  · intro h
    rcases List.cons_lt_cons_iff.mp h with q | q
    · exact q
    · exact absurd q.2 (List.not_lt_nil _)
  · intro h
    exact List.cons_lt_cons_iff.mpr (.inl h)
theorem low_eq (c : Nat) : (if (!decide (([c] : List Nat) < [97])) = true then !decide (([122] : List Nat) < [c]) else false) = lowB c := by
  rw [lt1, lt1]
  unfold lowB
  by_cases h : c < 97
  · rw [decide_eq_true h]
    simp
    omega
  · rw [decide_eq_false h]
    simp
    by_cases g : 122 < c
    · rw [decide_eq_true g, decide_eq_true (by omega : 97 ≤ c), decide_eq_false (by omega : ¬ c ≤ 122)]
      rfl
    · rw [decide_eq_false g, decide_eq_true (by omega : 97 ≤ c), decide_eq_true (by omega : c ≤ 122)]
      rfl
/-- not a text -/
def NoS (K : PySem.W.Frag) (H : Hp) (v : V) : Prop := ∃ t, TyX K H v t ∧ PySem.W.kitOne K t (.type "str") = some false
theorem isi_kit {K : PySem.W.Frag} : PySem.W.kitOne K (.type "str") (.type "str") = some true := kit_ty (by decide +kernel)
def spAsc : Sp := fun vs H Q _ => ∃ (x : Str), vs = [.str x] ∧ (tl x).length ≤ 100000 ∧ ∀ H', Same H H' → Q (.bl (ascB (tl x))) H'
def spAlp (K : PySem.W.Frag) : Sp := fun vs H Q _ => ∃ v : V, vs = [v] ∧ ((∃ x : Str, v = .str x ∧ (tl x).length ≤ 100000 ∧ ∀ H', Same H H' → Q (.bl (alphB (tl x))) H') ∨ (NoS K H v ∧ ∀ H', Same H H' → Q (.bl false) H'))
def spIw (K : PySem.W.Frag) : Sp := fun vs H Q _ => ∃ (z : Str) (v : V), vs = [.str z, v] ∧ ((∃ x : Str, v = .str x ∧ (tl x).length ≤ 100000 ∧ ∀ H', Same H H' → Q (.bl ((tl x).all fun c => decide (c ∈ tl z))) H') ∨ (NoS K H v ∧ ∀ H', Same H H' → Q (.bl false) H'))
theorem cut1 (x : Str) : tl (cutS x (some 1) none) = (tl x).drop 1 := by
  show (x.cps.toList.drop (HT.sIx x.length 0 (some 1))).take (HT.sIx x.length x.length none - HT.sIx x.length 0 (some 1)) = x.cps.toList.drop 1
  rw [show HT.sIx x.length 0 (some 1) = min 1 x.length from HT.sIx_nat x.length 0 1, HT.sIx_none]
  have e : x.length = x.cps.toList.length := (Array.length_toList).symm
  by_cases h : 1 ≤ x.length
  · rw [show min 1 x.length = 1 by omega]
    exact List.take_of_length_le (by rw [List.length_drop]; omega)
  · have h0 : x.cps.toList = [] := List.length_eq_zero_iff.mp (by omega)
    rw [h0]
    simp
section
variable {P : Program} {w : World} {K : PySem.W.Frag} {mg : Str → Option Value} {base : Heap}
theorem scAsc : FnScope ["letters", "one", "other"] ["letters"] (defScope sIsAscending) := ⟨rfl, rfl, rfl, by decide +kernel, rfl, by decide +kernel, by decide +kernel⟩
theorem ok_asc (D : Df K mg "is_ascending" sIsAscending ["letters"]) (ma : mg "all" = none) (mz : mg "zip" = none) : FnOk P w K mg base CX0 1 D.f D.fd ["letters"] spAsc := by
  refine D.F.ok scAsc (fun vs H Q E h => ?_) (fun cdv A outer s H vs Q E hr h => ?_)
  · obtain ⟨x, rfl, _⟩ := h
    rfl
  · obtain ⟨x, rfl, xl, k⟩ := h
    have sz : ∀ y : Str, y.length = (tl y).length := fun y => (Array.length_toList).symm
    refine ⟨_, (pss_one (ps_ret (pe_callB (cr_all rfl) (by rfl) ma (by decide +kernel) (pa_cons (pe_lc (own := [("one", 1), ("other", 2)]) (g := gTup K 2 (gCons (gName 1) (gCons (gName 2) gNil))) rfl scAsc.nd (ZX.pi_zipX (by rfl) mz (pa_cons (pv 0) (pa_cons (pe_slice sl_str (pv 0) (po_some pe_int) po_none) pa_nil))) (blkOk_by (N := ["letters", "one", "other"]) (sc := defScope sIsAscending) (by decide +kernel)) (fun _ _ _ _ _ => pg_tup rfl (pgs_cons (pg_name (i := 1) scAsc.nd rfl (.inl rfl)) (pgs_cons (pg_name (i := 2) scAsc.nd rfl (.inl rfl)) pgs_nil))) (fun _ _ _ _ _ => pts_nil) (fun _ _ _ _ _ => (pe_cmpR op_lt_str (pv 1) (pv 2) (nomark _)))) pa_nil)))), ?_⟩
    refine ⟨.str x, rfl, .str x, rfl, 1, rfl, ?_⟩
    unfold tNoPart
    refine ⟨x, rfl, by rw [sz, sizeLine_eq]; omega, x, _, rfl, fun L hL => ?_⟩
    have e1 := cut1 x
    generalize hy : cutS x (some 1) none = y at e1 ⊢
    have xs : x.cps.size = (tl x).length := (Array.length_toList).symm
    have ys : y.cps.size = (tl y).length := (Array.length_toList).symm
    have sL := same_upd (o := .lst []) hL
    refine lc_it ZX.walk_zipX (fun i H' => ∃ bs : List Bool, H' L = some (.lst (bs.map V.bl)) ∧ bs = (((tl x).zip (tl y)).take i).map (fun p => decide (p.1 < p.2)) ∧ Same H H') ⟨[], upd_same, rfl, sL⟩ (fun _ _ _ _ => trivial) ?_ ?_
    · rintro i v G G' hi ⟨bs, gL, be, sm⟩ ⟨T, c, d, rfl, hT, rfl, hc, hd⟩
      have sT := same_upd (o := .tup [.str ⟨#[c]⟩, .str ⟨#[d]⟩]) hT
      have hc' : (tl x)[i]? = some c := by rw [Array.getElem?_toList]; exact hc
      have hd' : (tl y)[i]? = some d := by rw [Array.getElem?_toList]; exact hd
      have hz : ((tl x).zip (tl y))[i]? = some (c, d) := List.getElem?_zip_eq_some.mpr ⟨hc', hd'⟩
      refine ⟨T, _, rfl, SqT.of upd_same, rfl, _, _, rfl, _, _, rfl, rfl, rfl, yes ?_⟩
      refine ⟨_, rfl, _, rfl, _, _, rfl, rfl, _, sT _ _ gL, ?_, bs ++ [decide (c < d)], ?_, ?_, fun b o e => (upd_ne (ne_of_none e hL)).trans ((sm.trans sT) _ _ e)⟩
      · rw [List.length_map, be, List.length_map, List.length_take, sizeLine_eq]
        omega
      · rw [upd_same, List.map_append]
        show some (HO.lst (_ ++ [V.bl (decide ([c] < [d]))])) = _
        rw [lt1]
        rfl
      · rw [be, List.take_add_one, hz, List.map_append]
        rfl
    · rintro G ⟨bs, gL, be, sm⟩
      refine ⟨L, bs, rfl, SqL.of gL, ?_⟩
      have e2 : bs.all id = ascB (tl x) := by
        rw [be, xs, ys, List.take_of_length_le (by rw [List.length_zip]; omega), List.all_map, e1]
        rfl
      rw [e2]
      exact k _ sm
theorem scIw : FnScope ["alphabet", "thing", "letter"] ["alphabet", "thing"] (defScope sIsWord) := ⟨rfl, rfl, rfl, by decide +kernel, rfl, by decide +kernel, by decide +kernel⟩
theorem ok_iw (D : Df K mg "is_word" sIsWord ["alphabet", "thing"]) (ma : mg "all" = none) (mi : mg "isinstance" = none) (ms : mg "str" = none) : FnOk P w K mg base CX0 1 D.f D.fd ["alphabet", "thing"] (spIw K) := by
  refine D.F.ok scIw (fun vs H Q E h => ?_) (fun cdv A outer s H vs Q E hr h => ?_)
  · obtain ⟨z, x, rfl, _⟩ := h
    rfl
  · obtain ⟨z, v, rfl, h⟩ := h
    refine ⟨_, (pss_one (ps_ret (pe_and (pe_callB call_isi (by rfl) mi (by decide +kernel) (pa_cons (pv 1) (pa_cons (pe_bltn (v := V.ty "str") (by rfl) ms (by decide +kernel : bootBuiltins "str" = some (.type "str")) rfl) pa_nil))) (pe_one (pe_callB (cr_all rfl) (by rfl) ma (by decide +kernel) (pa_cons (pe_lc (own := [("letter", 2)]) (g := gName 2) rfl scIw.nd (pi_str (pv 1)) (blkOk_by (N := ["alphabet", "thing", "letter"]) (sc := defScope sIsWord) (by decide +kernel)) (fun _ _ _ _ _ => pg_name (i := 2) scIw.nd rfl (Or.inl rfl)) (fun _ _ _ _ _ => pts_nil) (fun _ _ _ _ _ => (pe_cmpR op_in_sign (pv 2) (pv 0) rfl))) pa_nil)))))), ?_⟩
    rcases h with ⟨x, rfl, xl, k⟩ | ⟨⟨t, ty, kt⟩, k⟩
    · have xs : x.cps.size = (tl x).length := (Array.length_toList).symm
      refine ⟨.str x, rfl, _, _, _, _, true, rfl, .ty "str", .base (.str x), isi_kit, true, rfl, ?_⟩
      refine iteT ?_
      refine ⟨.str x, rfl, x, rfl, fun L hL => ?_⟩
      have sL := same_upd (o := .lst []) hL
      refine lc_it walk_str (fun i H' => ∃ bs : List Bool, H' L = some (.lst (bs.map V.bl)) ∧ bs = ((tl x).take i).map (fun c => decide (c ∈ tl z)) ∧ Same H H') ⟨[], upd_same, rfl, sL⟩ (fun _ _ _ _ => trivial) ?_ ?_
      · rintro i v G G' hi ⟨bs, gL, be, sm⟩ ⟨rfl, c, hc, rfl⟩
        have hc' : (tl x)[i]? = some c := by rw [Array.getElem?_toList]; exact hc
        refine ⟨rfl, yes ?_⟩
        refine ⟨_, rfl, .str z, rfl, c, z, rfl, rfl, _, gL, ?_, bs ++ [decide (c ∈ tl z)], ?_, ?_, fun b o e => (upd_ne (ne_of_none e hL)).trans (sm _ _ e)⟩
        · rw [List.length_map, be, List.length_map, List.length_take, sizeLine_eq]
          omega
        · rw [upd_same, List.map_append]
          rfl
        · rw [be, List.take_add_one, hc', List.map_append]
          rfl
      · rintro G ⟨bs, gL, be, sm⟩
        refine ⟨L, bs, rfl, SqL.of gL, ?_⟩
        have e2 : bs.all id = (tl x).all fun c => decide (c ∈ tl z) := by
          rw [be, xs, List.take_length, List.all_map]
          rfl
        rw [e2]
        exact k _ sm
    · refine ⟨v, rfl, _, _, _, _, false, rfl, .ty "str", ty, kt, false, rfl, ?_⟩
      exact k _ (Same.refl H)
end
end DW
/-! is_factor and is_product of any object -/
namespace DW
open PySem PySem.Spec PyProof.Rows L2 TL
set_option autoImplicit false
theorem sqT_ty {K : PySem.W.Frag} {H : Hp} {a : Addr} {xs : List V} (h : SqT K H a xs) : TyX K H (.ref a) (.type "tuple") := by
  rcases h with (h | ⟨o, h⟩) | ⟨o, its, n, h, c, _⟩
  · exact .base (.tup h)
  · exact .fTuple h
  · exact .kTuple h c
theorem tup_kit {K : PySem.W.Frag} : PySem.W.kitOne K (.type "tuple") (.type "tuple") = some true := kit_ty (by decide +kernel)
theorem kdo (b : Bool) : decide (V.str (kd b) = V.str "opt") = !b := by
  cases b
  · exact decide_eq_true rfl
  · exact decide_eq_false (by unfold kd; decide +kernel)
theorem kds (b : Bool) : decide (V.str (kd b) = V.str "star") = b := by
  cases b
  · exact decide_eq_false (by unfold kd; decide +kernel)
  · exact decide_eq_true rfl
/-- not a tuple -/
def NoT (K : PySem.W.Frag) (H : Hp) (v : V) : Prop := ∃ t, TyX K H v t ∧ PySem.W.kitOne K t (.type "tuple") = some false
/-- is it a factor: its kind, its letters -/
def facB (z : Str) (k : V) (x : Str) : Bool := (tl x).all (fun c => decide (c ∈ tl z)) && (if decide (k = .str "opt") = true then decide ((tl x).length = 1) else (decide (k = .str "star") && (decide (0 < (tl x).length) && ascB (tl x))))
inductive ObB (K : PySem.W.Frag) (H : Hp) (z : Str) : V → Bool → Prop where
  | no {v : V} (h : NoT K H v) : ObB K H z v false
  | len {a : Addr} {xs : List V} (h : SqT K H a xs) (n : xs.length ≠ 2) : ObB K H z (.ref a) false
  | nos {a : Addr} {k l : V} (h : SqT K H a [k, l]) (n : NoS K H l) : ObB K H z (.ref a) false
  | fac {a : Addr} {k : V} {x : Str} (h : SqT K H a [k, .str x]) (s : ∀ y, scal k (.str y) = true) (xl : (tl x).length ≤ 100000) : ObB K H z (.ref a) (facB z k x)
inductive ObBs (K : PySem.W.Frag) (H : Hp) (z : Str) : List V → List Bool → Prop where
  | nil : ObBs K H z [] []
  | cons {v : V} {b : Bool} {vs : List V} {bs : List Bool} (h : ObB K H z v b) (r : ObBs K H z vs bs) : ObBs K H z (v :: vs) (b :: bs)
theorem ObBs.len {K : PySem.W.Frag} {H : Hp} {z : Str} : ∀ {vs : List V} {bs : List Bool}, ObBs K H z vs bs → vs.length = bs.length
  | _, _, .nil => rfl
  | _, _, .cons _ r => by rw [List.length_cons, List.length_cons, r.len]
theorem ObBs.get {K : PySem.W.Frag} {H : Hp} {z : Str} : ∀ {vs : List V} {bs : List Bool}, ObBs K H z vs bs → ∀ (i : Nat) (v : V), vs[i]? = some v → ∃ b, bs[i]? = some b ∧ ObB K H z v b
  | _, _, .nil, i, v, h => by simp at h
  | _, _, .cons a r, 0, v, h => by
    have e := Option.some.inj h
    subst e
    exact ⟨_, rfl, a⟩
  | _, _, .cons a r, i + 1, v, h => r.get i v h
theorem tyX_same {K : PySem.W.Frag} {H H' : Hp} {v : V} {t : Value} (s : Same H H') (h : TyX K H v t) : TyX K H' v t := by
  cases h with
  | base b =>
    refine .base ?_
    cases b with
    | non => exact .non
    | bl y => exact .bl y
    | int i => exact .int i
    | str y => exact .str y
    | flt y => exact .flt y
    | lst e => exact .lst (s _ _ e)
    | frz e => exact .frz (s _ _ e)
    | tup e => exact .tup (s _ _ e)
    | dK e => exact .dK (s _ _ e)
    | dT e => exact .dT (s _ _ e)
    | ins e a b c d f => exact .ins (s _ _ e) a b c d f
  | byt b => exact .byt b
  | set e => exact .set (s _ _ e)
  | kList e c => exact .kList e c
  | kTuple e c => exact .kTuple e c
  | kDict e c => exact .kDict e c
  | fTuple e => exact .fTuple (s _ _ e)
  | fDict e => exact .fDict (s _ _ e)
theorem ObB.same {K : PySem.W.Frag} {H H' : Hp} {z : Str} {v : V} {b : Bool} (s : Same H H') (h : ObB K H z v b) : ObB K H' z v b := by
  cases h with
  | no h =>
    obtain ⟨t, ty, kt⟩ := h
    exact .no ⟨t, tyX_same s ty, kt⟩
  | len h n => exact .len (same_tup s _ _ h) n
  | nos h n =>
    obtain ⟨t, ty, kt⟩ := n
    exact .nos (same_tup s _ _ h) ⟨t, tyX_same s ty, kt⟩
  | fac h sc xl => exact .fac (same_tup s _ _ h) sc xl
/-- what is told of an object that may be a product -/
inductive PrB (K : PySem.W.Frag) (H : Hp) (z : Str) : V → Bool → Prop where
  | no {v : V} (h : NoT K H v) : PrB K H z v false
  | tup {a : Addr} {xs : List V} {bs : List Bool} (h : SqT K H a xs) (o : ObBs K H z xs bs) (l : bs.length ≤ 100000) : PrB K H z (.ref a) (bs.all id)
def spIf (K : PySem.W.Frag) : Sp := fun vs H Q _ => ∃ (z : Str) (v : V) (b : Bool), vs = [.str z, v] ∧ ObB K H z v b ∧ ∀ H', Same H H' → Q (.bl b) H'
def spIp (K : PySem.W.Frag) : Sp := fun vs H Q _ => ∃ (z : Str) (v : V) (b : Bool), vs = [.str z, v] ∧ PrB K H z v b ∧ ∀ H', Same H H' → Q (.bl b) H'
theorem ascB_of {l : List Nat} (h : l.Pairwise (· < ·)) : ascB l = true := by
  induction l with
  | nil => rfl
  | cons a l ih =>
    cases l with
    | nil => rfl
    | cons b r =>
      obtain ⟨h1, h2⟩ := List.pairwise_cons.mp h
      show (decide (a < b) && ascB (b :: r)) = true
      rw [ih h2, decide_eq_true (h1 b List.mem_cons_self)]
      rfl
/-- a factor that was drawn is one -/
theorem IsF.ob {K : PySem.W.Frag} {H : Hp} {z : Str} {v : V} {f : Fc} (h : IsF K H v f) (fo : FOk z f) (al : Alph z) : ObB K H z v true := by
  obtain ⟨a, rfl, hq⟩ := h
  have fl : (tl f.2).length ≤ 3 := Nat.le_trans fo.2.1.length_le al.2.2.1
  have e : facB z (.str (kd f.1)) f.2 = true := by
    unfold facB
    rw [Bool.and_eq_true]
    refine ⟨List.all_eq_true.mpr fun c hc => decide_eq_true (fo.2.1.subset hc), ?_⟩
    rw [kdo, kds]
    cases q : f.1 with
    | false => exact decide_eq_true (fo.2.2 q)
    | true =>
      rw [ascB_of (al.1.sublist fo.2.1), decide_eq_true (List.length_pos_iff.mpr fo.1)]
      rfl
  have o := ObB.fac (z := z) hq (fun _ => rfl) (Nat.le_trans fl (by decide))
  rw [e] at o
  exact o
theorem IsFs.obs {K : PySem.W.Frag} {H : Hp} {z : Str} (al : Alph z) : ∀ {vs : List V} {fs : List Fc}, IsFs K H vs fs → (∀ f ∈ fs, FOk z f) → ∃ bs, ObBs K H z vs bs ∧ bs.all id = true ∧ bs.length = fs.length
  | _, _, .nil, _ => ⟨[], .nil, rfl, rfl⟩
  | _, _, .cons a r, h => by
    obtain ⟨bs, o, e, l⟩ := r.obs al fun f hf => h f (List.mem_cons_of_mem _ hf)
    refine ⟨true :: bs, .cons (a.ob (h _ List.mem_cons_self) al) o, ?_, by rw [List.length_cons, List.length_cons, l]⟩
    rw [List.all_cons, e]
    rfl
theorem IsP.pr {K : PySem.W.Frag} {H : Hp} {z : Str} {v : V} {fs : List Fc} (al : Alph z) (h : IsP K H v fs) (fo : ∀ f ∈ fs, FOk z f) (l : fs.length ≤ 100000) : PrB K H z v true := by
  obtain ⟨a, xs, rfl, hq, iF⟩ := h
  obtain ⟨bs, o, e, bl⟩ := iF.obs al fo
  rw [← e]
  exact .tup hq o (by rw [bl]; exact l)
section
variable {P : Program} {w : World} {K : PySem.W.Frag} {mg : Str → Option Value} {base : Heap}
structure DfPr (K : PySem.W.Frag) (mg : Str → Option Value) where
  p : Df K mg "is_product" sIsProduct ["alphabet", "thing"]
  f : Df K mg "is_factor" sIsFactor ["alphabet", "thing"]
  w : Df K mg "is_word" sIsWord ["alphabet", "thing"]
  a : Df K mg "is_ascending" sIsAscending ["letters"]
  ma : mg "all" = none
  mz : mg "zip" = none
  mi : mg "isinstance" = none
  ms : mg "str" = none
  mt : mg "tuple" = none
  ml : mg "len" = none
theorem scIf : FnScope ["alphabet", "thing", "kind", "letters"] ["alphabet", "thing"] (defScope sIsFactor) := ⟨rfl, rfl, rfl, by decide +kernel, rfl, by decide +kernel, by decide +kernel⟩
theorem ok_if (D : DfPr K mg) : FnOk P w K mg base CX0 2 D.f.f D.f.fd ["alphabet", "thing"] (spIf K) := by
  have Gw : FnOk P w K mg base CX0 1 D.w.f D.w.fd ["alphabet", "thing"] (spIw K) := ok_iw D.w D.ma D.mi D.ms
  have Ga : FnOk P w K mg base CX0 1 D.a.f D.a.fd ["letters"] spAsc := ok_asc D.a D.ma D.mz
  refine D.f.F.ok scIf (fun vs H Q E h => ?_) (fun cdv A outer s H vs Q E hr h => ?_)
  · obtain ⟨z, v, f, rfl, _⟩ := h
    rfl
  · obtain ⟨z, v, b, rfl, ob, k⟩ := h
    have sz : ∀ y : Str, y.length = (tl y).length := fun y => (Array.length_toList).symm
    have mt := D.mt
    have mi := D.mi
    have ml := D.ml
    refine ⟨_, (pss_cons (ps_if (pw_or (pt_not (pt_val (pe_callB call_isi (by rfl) mi (by decide +kernel) (pa_cons (pv 1) (pa_cons (pe_bltn (v := V.ty "tuple") (by rfl) mt (by decide +kernel : bootBuiltins "tuple" = some (.type "tuple")) rfl) pa_nil))))) (pw_or1 (pt_cmpR op_ne (pe_callB call_len_seq (by rfl) ml PySem.boot_len (pa_cons (pv 1) pa_nil)) pe_int (nomark _)))).pt (pss_one (ps_ret pe_bl)) pss_nil) (pss_cons (ps_asg (pv 1) (pg_tup rfl (pgs_cons (pg_name (i := 2) scIf.nd rfl (.inl rfl)) (pgs_cons (pg_name (i := 3) scIf.nd rfl (.inl rfl)) pgs_nil)))) (pss_cons (ps_if (pt_not (pt_val (pe_call Gw hr (by rfl) D.w.g D.w.F.kp D.w.b .nil pass0 (pa_cons (pv 0) (pa_cons (pv 3) pa_nil))))) (pss_one (ps_ret pe_bl)) pss_nil) (pss_cons (ps_if (pt_cmpR op_eq (pv 2) pe_str (nomark _)) (pss_one (ps_ret (pe_cmpR op_eq (pe_callB call_len_str (by rfl) ml PySem.boot_len (pa_cons (pv 3) pa_nil)) pe_int (nomark _)))) pss_nil) (pss_one (ps_ret (pe_and (pe_cmpR op_eq (pv 2) pe_str (nomark _)) (pe_and (pe_cmpR op_gt (pe_callB call_len_str (by rfl) ml PySem.boot_len (pa_cons (pv 3) pa_nil)) pe_int (nomark _)) (pe_one (pe_call Ga hr (by rfl) D.a.g D.a.F.kp D.a.b .nil pass0 (pa_cons (pv 3) pa_nil))))))))))), ?_⟩
    cases ob with
    | no h =>
      obtain ⟨t, ty, kt⟩ := h
      exact ⟨v, rfl, _, _, _, _, false, rfl, .ty "tuple", ty, kt, false, rfl, iteT (k _ (Same.refl _))⟩
    | @len a xs h n =>
      refine ⟨.ref a, rfl, _, _, _, _, true, rfl, .ty "tuple", sqT_ty h, tup_kit, true, rfl, iteF ?_⟩
      refine ⟨.ref a, rfl, a, _, rfl, .inr h, rfl, _, rfl, ?_⟩
      rw [show (!decide (V.int (xs.length : Int) = V.int 2)) = true by
        rw [decide_eq_false fun e => by
          have := V.int.inj e
          omega]
        rfl]
      exact iteT (k _ (Same.refl _))
    | @nos a kk l h n =>
      refine ⟨.ref a, rfl, _, _, _, _, true, rfl, .ty "tuple", sqT_ty h, tup_kit, true, rfl, iteF ?_⟩
      refine ⟨.ref a, rfl, a, _, rfl, .inr h, rfl, _, rfl, iteF ?_⟩
      refine ⟨.ref a, rfl, a, _, rfl, h, rfl, _, _, rfl, _, _, rfl, rfl, ?_⟩
      refine ⟨.str z, rfl, l, rfl, z, l, rfl, .inr ⟨n, fun H1 s1 => ?_⟩⟩
      exact ⟨_, rfl, iteT (k _ s1)⟩
    | @fac a kk x h sc xl =>
      refine ⟨.ref a, rfl, _, _, _, _, true, rfl, .ty "tuple", sqT_ty h, tup_kit, true, rfl, iteF ?_⟩
      refine ⟨.ref a, rfl, a, _, rfl, .inr h, rfl, _, rfl, iteF ?_⟩
      refine ⟨.ref a, rfl, a, _, rfl, h, rfl, _, _, rfl, _, _, rfl, rfl, ?_⟩
      refine ⟨.str z, rfl, .str x, rfl, z, .str x, rfl, .inl ⟨x, rfl, xl, fun H1 s1 => ?_⟩⟩
      unfold facB at k
      cases q1 : (tl x).all (fun c => decide (c ∈ tl z)) with
      | false =>
        rw [q1] at k
        exact ⟨_, rfl, iteT (k _ s1)⟩
      | true =>
        rw [q1, Bool.true_and] at k
        refine ⟨_, rfl, iteF ?_⟩
        refine ⟨_, rfl, sc _, _, rfl, ?_⟩
        have xsz : x.length ≤ sizeLine := by
          rw [sz, sizeLine_eq]
          omega
        by_cases q2 : decide (kk = V.str "opt") = true
        · rw [if_pos q2] at k
          rw [q2]
          refine iteT ?_
          refine ⟨.str x, rfl, x, rfl, xsz, rfl, ?_⟩
          have e : decide (V.int (x.length : Int) = V.int 1) = decide ((tl x).length = 1) := by
            rw [decide_eq_decide, sz]
            constructor
            · intro e
              have := V.int.inj e
              omega
            · intro e
              rw [e]
              rfl
          rw [e]
          exact k _ s1
        · rw [if_neg q2] at k
          rw [show decide (kk = V.str "opt") = false by simpa using q2]
          refine iteF ?_
          refine ⟨_, rfl, sc _, _, rfl, ?_⟩
          by_cases q3 : decide (kk = V.str "star") = true
          · rw [q3, Bool.true_and] at k
            rw [q3]
            refine iteT ?_
            refine ⟨.str x, rfl, x, rfl, xsz, _, _, rfl, rfl, _, rfl, ?_⟩
            have e : decide ((x.length : Int) > 0) = decide (0 < (tl x).length) := by
              rw [decide_eq_decide, sz]
              omega
            rw [e]
            by_cases q4 : decide (0 < (tl x).length) = true
            · rw [q4, Bool.true_and] at k
              rw [q4]
              refine iteT ?_
              exact ⟨.str x, rfl, x, rfl, xl, fun H2 s2 => k _ (s1.trans s2)⟩
            · rw [show decide (0 < (tl x).length) = false by simpa using q4] at k
              rw [show decide (0 < (tl x).length) = false by simpa using q4]
              exact iteF (k _ s1)
          · rw [show decide (kk = V.str "star") = false by simpa using q3] at k
            rw [show decide (kk = V.str "star") = false by simpa using q3]
            exact iteF (k _ s1)
theorem scIp : FnScope ["alphabet", "thing", "factor"] ["alphabet", "thing"] (defScope sIsProduct) := ⟨rfl, rfl, rfl, by decide +kernel, rfl, by decide +kernel, by decide +kernel⟩
theorem ok_ip (D : DfPr K mg) : FnOk P w K mg base CX0 3 D.p.f D.p.fd ["alphabet", "thing"] (spIp K) := by
  have Gf : FnOk P w K mg base CX0 2 D.f.f D.f.fd ["alphabet", "thing"] (spIf K) := ok_if D
  refine D.p.F.ok scIp (fun vs H Q E h => ?_) (fun cdv A outer s H vs Q E hr h => ?_)
  · obtain ⟨z, v, f, rfl, _⟩ := h
    rfl
  · obtain ⟨z, v, b, rfl, pr, k⟩ := h
    have mt := D.mt
    have mi := D.mi
    have ma := D.ma
    refine ⟨_, (pss_one (ps_ret (pe_and (pe_callB call_isi (by rfl) mi (by decide +kernel) (pa_cons (pv 1) (pa_cons (pe_bltn (v := V.ty "tuple") (by rfl) mt (by decide +kernel : bootBuiltins "tuple" = some (.type "tuple")) rfl) pa_nil))) (pe_one (pe_callB (cr_all rfl) (by rfl) ma (by decide +kernel) (pa_cons (pe_lc (own := [("factor", 2)]) (g := gName 2) rfl scIp.nd (pi_tup (pv 1)) (blkOk_by (N := ["alphabet", "thing", "factor"]) (sc := defScope sIsProduct) (by decide +kernel)) (fun _ _ _ _ _ => pg_name (i := 2) scIp.nd rfl (Or.inl rfl)) (fun _ _ _ _ _ => pts_nil) (fun _ _ _ _ _ => (pe_call Gf hr (by rfl) D.f.g D.f.F.kp D.f.b .nil pass0 (pa_cons (pv 0) (pa_cons (pv 2) pa_nil))))) pa_nil)))))), ?_⟩
    cases pr with
    | no h =>
      obtain ⟨t, ty, kt⟩ := h
      exact ⟨v, rfl, _, _, _, _, false, rfl, .ty "tuple", ty, kt, false, rfl, iteF (k _ (Same.refl _))⟩
    | @tup a xs bs hq o bl =>
      refine ⟨.ref a, rfl, _, _, _, _, true, rfl, .ty "tuple", sqT_ty hq, tup_kit, true, rfl, iteT ?_⟩
      refine ⟨.ref a, rfl, a, rfl, ⟨_, hq⟩, fun L hL => ?_⟩
      have sL := same_upd (o := .lst []) hL
      have xl := o.len
      refine lc_it (walk_tup (xs := xs)) (fun i H' => H' L = some (.lst ((bs.take i).map V.bl)) ∧ Same H H') ⟨upd_same, sL⟩ (fun _ _ _ ⟨_, sm⟩ => same_tup sm _ _ hq) ?_ ?_
      · rintro i v G G' hi ⟨gL, sm⟩ ⟨rfl, hv⟩
        obtain ⟨b, hb, ob⟩ := o.get i v hv
        refine ⟨rfl, yes ?_⟩
        refine ⟨.str z, rfl, v, rfl, z, v, b, rfl, ob.same sm, fun H2 s2 => ?_⟩
        refine ⟨_, s2 _ _ gL, ?_, ?_, fun b o e => (upd_ne (ne_of_none e hL)).trans ((sm.trans s2) _ _ e)⟩
        · rw [List.length_map, List.length_take, sizeLine_eq]
          omega
        · rw [upd_same, List.take_add_one, hb, List.map_append]
          rfl
      · rintro G ⟨gL, sm⟩
        refine ⟨L, _, rfl, SqL.of gL, ?_⟩
        rw [xl, List.take_length]
        exact k _ sm
end
end DW
/-! texts, lists of texts and of numbers as data; slices and sums of tuples; no products -/
namespace DW
open PySem PySem.Spec PyProof.Rows L2 TL
set_option autoImplicit false
theorem nil_shaped : SeqAt.shaped (.list []) = true := by decide +kernel
theorem tl_app (x y : Str) : tl (x ++ y) = tl x ++ tl y := Array.toList_append
theorem cut_mem {x : Str} {lo hi : Option Int} {c : Nat} (h : c ∈ tl (cutS x lo hi)) : c ∈ tl x :=
  List.mem_of_mem_drop (List.mem_of_mem_take (show c ∈ (x.cps.toList.drop (HT.sIx x.length 0 lo)).take (HT.sIx x.length x.length hi - HT.sIx x.length 0 lo) from h))
def Wd (n : Nat) (u : Str) : Prop := (tl u).length ≤ n ∧ ∀ c ∈ tl u, c < 128
theorem Wd.mono {n m : Nat} {u : Str} (h : Wd n u) (l : n ≤ m) : Wd m u := ⟨Nat.le_trans h.1 l, h.2⟩
theorem Wd.app {n m : Nat} {u v : Str} (h : Wd n u) (g : Wd m v) : Wd (n + m) (u ++ v) := by
  constructor
  · rw [tl_app, List.length_append]
    have := h.1
    have := g.1
    omega
  · intro c hc
    rw [tl_app] at hc
    rcases List.mem_append.mp hc with q | q
    · exact h.2 c q
    · exact g.2 c q
theorem Wd.cut {n : Nat} {u : Str} (h : Wd n u) (lo hi : Option Int) : Wd n (cutS u lo hi) := by
  refine ⟨?_, fun c hc => h.2 c (cut_mem hc)⟩
  have := cutS_length u lo hi
  have e : ∀ y : Str, y.length = (tl y).length := fun y => (Array.length_toList).symm
  rw [e, e] at this
  exact Nat.le_trans this h.1
def strD (ws : List Str) : PyData := .list (ws.map PyData.str)
theorem str_dpAll {K : PySem.W.Frag} {H : Hp} : ∀ ws : List Str, DpAll K H (ws.map V.str) (ws.map PyData.str)
  | [] => .nil
  | x :: r => .cons (.str _) (str_dpAll r)
theorem str_dp {K : PySem.W.Frag} {H : Hp} {a : Addr} {ws : List Str} (h : SqL K H a (ws.map V.str)) : Dp K H (.ref a) (strD ws) := .lst h (str_dpAll ws)
theorem str_ok : ∀ (ws : List Str), (∀ u ∈ ws, (tl u).length ≤ 20 ∧ ∀ c ∈ tl u, c < 128) → PyData.canLayAll0 (ws.map PyData.str) = true ∧ PyData.depthAll (ws.map PyData.str) = 0 ∧ PyData.weightAll (ws.map PyData.str) ≤ 21 * ws.length ∧
    PyData.showableAll (ws.map PyData.str) = true ∧ PyData.hasDictAll (ws.map PyData.str) = false ∧ PyData.intsShortAll 13 (ws.map PyData.str) = true
  | [], _ => ⟨rfl, rfl, Nat.le_refl _, rfl, rfl, rfl⟩
  | u :: r, h => by
    obtain ⟨h1, h2, h3, h4, h5, h6⟩ := str_ok r fun q hq => h q (List.mem_cons_of_mem _ hq)
    obtain ⟨ul, uc⟩ := h u List.mem_cons_self
    have us : u.cps.size = (tl u).length := (Array.length_toList).symm
    have so : PyData.strOk u = true := by
      unfold PyData.strOk
      rw [Array.all_eq_true]
      intro i hi
      have := uc u.cps[i] (by show u.cps[i] ∈ u.cps.toList; rw [Array.mem_toList_iff]; exact Array.getElem_mem hi)
      exact decide_eq_true (by omega)
    rw [List.map_cons]
    refine ⟨by simp only [PyData.canLayAll0, PyData.canLay0, so, h1, Bool.and_self], by simp only [PyData.depthAll, PyData.depth, h2]; rfl, ?_, by simp only [PyData.showableAll, PyData.showable, h4, Bool.and_self], by simp only [PyData.hasDictAll, PyData.hasDict, h5, Bool.or_self], by simp only [PyData.intsShortAll, PyData.intsShort, h6, Bool.and_self]⟩
    simp only [PyData.weightAll, PyData.weight, List.length_cons]
    omega
theorem str_shaped {ws : List Str} (h : ∀ u ∈ ws, (tl u).length ≤ 20 ∧ ∀ c ∈ tl u, c < 128) : SeqAt.shaped (strD ws) = true := by
  obtain ⟨h1, h2, _⟩ := str_ok ws h
  unfold SeqAt.shaped strD
  rw [Bool.and_eq_true]
  exact ⟨by simp only [PyData.canLay0, h1], decide_eq_true (by simp only [PyData.depth, h2]; omega)⟩
theorem str_eqv {ws : List Str} (h : ∀ u ∈ ws, (tl u).length ≤ 20 ∧ ∀ c ∈ tl u, c < 128) : PyData.eqv (strD ws) (strD ws) = true := by
  obtain ⟨h1, _⟩ := str_ok ws h
  exact PySem.SeqAt.eqv_refl _ (by unfold strD; simp only [PyData.canLay0, h1])
theorem str_eqv_nil (ws : List Str) : PyData.eqv (strD ws) (.list []) = ws.isEmpty := by
  unfold strD
  cases ws <;> simp [PyData.eqv, PyData.eqvAll]
theorem asc_cons (a b : Nat) (r : List Nat) : ascB (a :: b :: r) = (decide (a < b) && ascB (b :: r)) := rfl
theorem asc_pw : ∀ l : List Nat, ascB l = true ↔ l.Pairwise (· < ·)
  | [] => ⟨fun _ => List.Pairwise.nil, fun _ => rfl⟩
  | [a] => ⟨fun _ => List.pairwise_singleton _ _, fun _ => rfl⟩
  | a :: b :: r => by
    rw [asc_cons, Bool.and_eq_true, decide_eq_true_eq, asc_pw (b :: r)]
    constructor
    · rintro ⟨h, p⟩
      refine List.pairwise_cons.mpr ⟨fun u hu => ?_, p⟩
      rcases List.mem_cons.mp hu with q | q
      · omega
      · have := (List.pairwise_cons.mp p).1 u q
        omega
    · intro p
      obtain ⟨h, p'⟩ := List.pairwise_cons.mp p
      exact ⟨h b List.mem_cons_self, p'⟩
theorem nat_uniq : ∀ (l m : List Nat), l.Pairwise (· < ·) → m.Pairwise (· < ·) → (∀ k, k ∈ l ↔ k ∈ m) → l = m
  | [], [], _, _, _ => rfl
  | [], b :: m, _, _, h => by
    have := (h b).mpr List.mem_cons_self
    cases this
  | a :: l, [], _, _, h => by
    have := (h a).mp List.mem_cons_self
    cases this
  | a :: l, b :: m, p, q, h => by
    obtain ⟨pa, p'⟩ := List.pairwise_cons.mp p
    obtain ⟨qb, q'⟩ := List.pairwise_cons.mp q
    have ab : a = b := by
      rcases List.mem_cons.mp ((h a).mp List.mem_cons_self) with e | e
      · exact e
      · rcases List.mem_cons.mp ((h b).mpr List.mem_cons_self) with f | f
        · exact f.symm
        · have h1 := pa b f
          have h2 := qb a e
          omega
    subst ab
    have e := nat_uniq l m p' q' fun k => by
      constructor
      · intro hk
        rcases List.mem_cons.mp ((h k).mp (List.mem_cons_of_mem _ hk)) with e | e
        · have := pa k hk
          omega
        · exact e
      · intro hk
        rcases List.mem_cons.mp ((h k).mpr (List.mem_cons_of_mem _ hk)) with e | e
        · have := qb k hk
          omega
        · exact e
    rw [e]
theorem set_join {x : Str} {ls ys : List Str} (nd : ls.Nodup) (mem : ∀ k, k ∈ ls ↔ k ∈ TX.signs x) (pm : ys.Perm ls) (so : sortedS ys = true) : decide (V.str (Txt.join "" ys) = V.str x) = ascB (tl x) ∧ (∀ y ∈ ys, ∃ c, y = one c) := by
  have my : ∀ k, k ∈ ys ↔ k ∈ TX.signs x := fun k => (pm.mem_iff).trans (mem k)
  have h1 : ∀ y ∈ ys, ∃ c, y = one c := fun y hy => by
    obtain ⟨c, _, e⟩ := List.mem_map.mp ((my y).mp hy)
    exact ⟨c, e.symm⟩
  obtain ⟨cs, rfl, pw⟩ := sorted_ones ys h1 (pm.nodup_iff.mpr nd) so
  refine ⟨?_, h1⟩
  have ej : tl (Txt.join "" (cs.map one)) = cs := by rw [tl_cat, flat_ones]
  have mc : ∀ k, k ∈ cs ↔ k ∈ tl x := fun k => by
    have q := my (one k)
    constructor
    · intro h
      obtain ⟨c, hc, e⟩ := List.mem_map.mp (q.mp (List.mem_map.mpr ⟨k, h, rfl⟩))
      have e' : tl (one c) = tl (one k) := congrArg tl e
      rw [tl_one, tl_one] at e'
      rw [← (List.cons.inj e').1]
      exact hc
    · intro h
      obtain ⟨c, hc, e⟩ := List.mem_map.mp (q.mpr (List.mem_map.mpr ⟨k, h, rfl⟩))
      have e' : tl (one c) = tl (one k) := congrArg tl e
      rw [tl_one, tl_one] at e'
      rw [← (List.cons.inj e').1]
      exact hc
  rw [Bool.eq_iff_iff, decide_eq_true_eq, asc_pw]
  constructor
  · intro h
    rw [← V.str.inj h, ej]
    exact pw
  · intro h
    rw [tl_inj (ej.trans (nat_uniq cs (tl x) pw h mc))]
theorem ones_ok {cs : List Nat} (h : ∀ c ∈ cs, c < 128) : ∀ u ∈ cs.map one, (tl u).length ≤ 20 ∧ ∀ c ∈ tl u, c < 128 := fun u hu => by
  obtain ⟨c, hc, rfl⟩ := List.mem_map.mp hu
  rw [tl_one]
  exact ⟨by show 1 ≤ 20; decide, fun d hd => by rw [List.mem_singleton.mp hd]; exact h c hc⟩
def intD (ns : List Int) : PyData := .list (ns.map PyData.int)
theorem int_dpAll {K : PySem.W.Frag} {H : Hp} : ∀ ns : List Int, DpAll K H (ns.map V.int) (ns.map PyData.int)
  | [] => .nil
  | x :: r => .cons (.int _) (int_dpAll r)
theorem int_dp {K : PySem.W.Frag} {H : Hp} {a : Addr} {ns : List Int} (h : SqL K H a (ns.map V.int)) : Dp K H (.ref a) (intD ns) := .lst h (int_dpAll ns)
theorem int_ok : ∀ ns : List Int, PyData.canLayAll0 (ns.map PyData.int) = true ∧ PyData.depthAll (ns.map PyData.int) = 0
  | [] => ⟨rfl, rfl⟩
  | x :: r => by
    obtain ⟨h1, h2⟩ := int_ok r
    rw [List.map_cons]
    exact ⟨by simp only [PyData.canLayAll0, PyData.canLay0, h1, Bool.and_self], by simp only [PyData.depthAll, PyData.depth, h2]; rfl⟩
theorem int_shaped (ns : List Int) : SeqAt.shaped (intD ns) = true := by
  obtain ⟨h1, h2⟩ := int_ok ns
  unfold SeqAt.shaped intD
  rw [Bool.and_eq_true]
  exact ⟨by simp only [PyData.canLay0, h1], decide_eq_true (by simp only [PyData.depth, h2]; omega)⟩
theorem int_eqv_nil (ns : List Int) : PyData.eqv (intD ns) (.list []) = ns.isEmpty := by
  unfold intD
  cases ns <;> simp [PyData.eqv, PyData.eqvAll]
theorem atI_of {α : Type} {xs : List α} {i : Int} {j : Nat} {v : α} (e : i = (j : Int)) (h : xs[j]? = some v) : atI xs i = some v := by
  rw [e]
  exact atI_nat h
/-! ### slices and sums of tuples -/
theorem sl_any {K : PySem.W.Frag} {H : Hp} {a : Addr} {xs : List V} {lo hi : Option Int} {Q : VK} (ha : SqT K H a xs) (k : ∀ H' a', Same H H' → SqT K H' a' (cutV xs lo hi) → Q (.ref a') H') : rSlA K (.ref a) lo hi H Q := by
  refine ⟨a, xs, rfl, ha, fun h => k H a (Same.refl _) ?_, fun _ p hp => k _ p (same_upd hp) (SqT.of upd_same)⟩
  have e : cutV xs lo hi = xs := by
    unfold cutV
    rw [h.1, h.2, List.drop_zero, Nat.sub_zero, List.take_length]
  rw [e]
  exact ha
theorem cat_any {K : PySem.W.Frag} {H : Hp} {a b : Addr} {xs ys : List V} {Q : VK} (ha : SqT K H a xs) (hb : SqT K H b ys) (hl : xs.length + ys.length ≤ sizeLine) (k : ∀ H' a', Same H H' → SqT K H' a' (xs ++ ys) → Q (.ref a') H') : rCatA K (.ref a) (.ref b) H Q := by
  refine ⟨a, b, xs, ys, rfl, rfl, ha, hb, hl, fun h => k H b (Same.refl _) ?_, fun _ h => k H a (Same.refl _) ?_, fun _ _ p hp => k _ p (same_upd hp) (SqT.of upd_same)⟩
  · rw [h]
    exact hb
  · rw [h, List.append_nil]
    exact ha
theorem cut_take (xs : List V) {k : Int} (h0 : 0 ≤ k) (h : k ≤ xs.length) : cutV xs none (some k) = xs.take k.toNat := by
  obtain ⟨n, rfl⟩ := Int.eq_ofNat_of_zero_le h0
  unfold cutV
  rw [HT.sIx_none, HT.sIx_nat, List.drop_zero, Nat.sub_zero, Nat.min_eq_left (by omega)]
  rfl
theorem cut_drop (xs : List V) {k : Int} (h0 : 0 ≤ k) : cutV xs (some k) none = xs.drop k.toNat := by
  obtain ⟨n, rfl⟩ := Int.eq_ofNat_of_zero_le h0
  unfold cutV
  rw [HT.sIx_none, HT.sIx_nat]
  show List.take _ (List.drop (min n xs.length) xs) = xs.drop n
  by_cases c : n ≤ xs.length
  · rw [Nat.min_eq_left c]
    exact List.take_of_length_le (by rw [List.length_drop]; omega)
  · rw [Nat.min_eq_right (by omega), List.drop_length, List.drop_of_length_le (by omega), List.take_nil]
end DW
/-! k05: the law's own look at a factor, and the objects near products -/
namespace DW
open PySem PySem.Spec PyProof.Rows L2 TL
set_option autoImplicit false
def KOk (k : V) : Prop := k = .non ∨ k = .str "opt" ∨ k = .str "star" ∨ k = .str "Opt"
theorem KOk.scal {k : V} (h : KOk k) (y : Str) : scal k (.str y) = true := by
  rcases h with rfl | rfl | rfl | rfl <;> rfl
theorem KOk.kd (b : Bool) : KOk (.str (DW.kd b)) := by
  cases b
  · exact .inr (.inl rfl)
  · exact .inr (.inr (.inl rfl))
inductive It (K : PySem.W.Frag) (H : Hp) (z : Str) : V → Bool → Prop where
  | no {v : V} (h : NoT K H v) : It K H z v false
  | len {a : Addr} {xs : List V} (h : SqT K H a xs) (n : xs.length ≠ 2) : It K H z (.ref a) false
  | nos {a : Addr} {k l : V} (h : SqT K H a [k, l]) (kk : KOk k) (n : NoS K H l) : It K H z (.ref a) false
  | fac {a : Addr} {k : V} {x : Str} (h : SqT K H a [k, .str x]) (kk : KOk k) (wx : Wd 20 x) : It K H z (.ref a) (facB z k x)
theorem It.ob {K : PySem.W.Frag} {H : Hp} {z : Str} {v : V} {b : Bool} (h : It K H z v b) : ObB K H z v b := by
  cases h with
  | no h => exact .no h
  | len h n => exact .len h n
  | nos h kk n => exact .nos h n
  | fac h kk wx => exact .fac h kk.scal (Nat.le_trans wx.1 (by decide))
theorem It.same {K : PySem.W.Frag} {H H' : Hp} {z : Str} {v : V} {b : Bool} (s : Same H H') (h : It K H z v b) : It K H' z v b := by
  cases h with
  | no h =>
    obtain ⟨t, ty, kt⟩ := h
    exact .no ⟨t, tyX_same s ty, kt⟩
  | len h n => exact .len (same_tup s _ _ h) n
  | nos h kk n =>
    obtain ⟨t, ty, kt⟩ := n
    exact .nos (same_tup s _ _ h) kk ⟨t, tyX_same s ty, kt⟩
  | fac h kk wx => exact .fac (same_tup s _ _ h) kk wx
theorem tyX_kp {K : PySem.W.Frag} {H H' : Hp} {t0 : Addr} {v : V} {t : Value} (s : Kp t0 H H') (h : TyX K H v t) : TyX K H' v t := by
  cases h with
  | base b =>
    refine .base ?_
    cases b with
    | non => exact .non
    | bl y => exact .bl y
    | int i => exact .int i
    | str y => exact .str y
    | flt y => exact .flt y
    | lst e => exact .lst (s.at e fun _ z => by cases z)
    | frz e => exact .frz (s.at e fun _ z => by cases z)
    | tup e => exact .tup (s.at e fun _ z => by cases z)
    | @dK a kvs e =>
      by_cases q : a = t0
      · obtain ⟨kvs', e'⟩ := s.new
        rw [q]
        exact .dK e'
      · exact .dK (s.oth _ _ q e)
    | dT e => exact .dT (s.at e fun _ z => by cases z)
    | ins e a b c d f => exact .ins (s.at e fun _ z => by cases z) a b c d f
  | byt b => exact .byt b
  | set e => exact .set (s.at e fun _ z => by cases z)
  | kList e c => exact .kList e c
  | kTuple e c => exact .kTuple e c
  | kDict e c => exact .kDict e c
  | fTuple e => exact .fTuple (s.at e fun _ z => by cases z)
  | fDict e => exact .fDict (s.at e fun _ z => by cases z)
theorem It.kp {K : PySem.W.Frag} {H H' : Hp} {t0 : Addr} {z : Str} {v : V} {b : Bool} (s : Kp t0 H H') (h : It K H z v b) : It K H' z v b := by
  cases h with
  | no h =>
    obtain ⟨t, ty, kt⟩ := h
    exact .no ⟨t, tyX_kp s ty, kt⟩
  | len h n => exact .len (s.tup h) n
  | nos h kk n =>
    obtain ⟨t, ty, kt⟩ := n
    exact .nos (s.tup h) kk ⟨t, tyX_kp s ty, kt⟩
  | fac h kk wx => exact .fac (s.tup h) kk wx
/-- the look of the law: what it tells is the same -/
def lookB (z : Str) (k : V) (x : Str) : Bool := (decide (k = .str "opt") || decide (k = .str "star")) && (!(tl x).isEmpty && ((tl x).all (fun c => decide (c ∈ tl z)) && (decide ((tl x).length = 1) || (decide (k = .str "star") && ascB (tl x)))))
theorem so : ¬ (V.str "star" = V.str "opt") := fun e => absurd (V.str.inj e) (by decide +kernel)
theorem os : ¬ (V.str "opt" = V.str "star") := fun e => absurd (V.str.inj e) (by decide +kernel)
theorem look_eq (z : Str) (k : V) (x : Str) : lookB z k x = facB z k x := by
  unfold lookB facB
  by_cases h1 : k = .str "opt"
  · rw [h1, decide_eq_true rfl, decide_eq_false os, if_pos rfl]
    cases q : tl x with
    | nil => simp
    | cons c r => cases r <;> simp
  · rw [decide_eq_false h1, if_neg (by simp)]
    by_cases h2 : k = .str "star"
    · rw [h2, decide_eq_true rfl]
      cases q : tl x with
      | nil => simp
      | cons c r =>
        cases r with
        | nil => simp [ascB]
        | cons d r => simp
    · rw [decide_eq_false h2]
      simp
def ReprOf (k : V) (r : Str) : Prop := (k = .non ∧ r = "None") ∨ ∃ y : Str, k = .str y ∧ (reprText y).length ≤ sizeLine ∧ r = reprText y
theorem cr_repr2 {X : Cx} : CallR X (.builtin "repr") (fun xs H Q => ∃ (k : V) (r : Str), xs = [k] ∧ ReprOf k r ∧ Q (.str r) H) := by
  intro pins s σ H xs us Q I r h
  obtain ⟨k, rr, rfl, ⟨rfl, rfl⟩ | ⟨y, rfl, l, rfl⟩, q⟩ := h
  · exact GA.cr_reprN pins s σ H _ us Q I r ⟨rfl, q⟩
  · exact cr_reprS pins s σ H _ us Q I r ⟨y, rfl, l, q⟩
theorem KOk.repr {k : V} (h : KOk k) : ∃ r : Str, ReprOf k r ∧ inV (.str r) [V.str "'opt'", V.str "'star'"] = (decide (k = .str "opt") || decide (k = .str "star")) := by
  rcases h with rfl | rfl | rfl | rfl
  · exact ⟨_, .inl ⟨rfl, rfl⟩, by decide +kernel⟩
  · exact ⟨_, .inr ⟨_, rfl, by rw [sizeLine_eq]; decide +kernel, rfl⟩, by decide +kernel⟩
  · exact ⟨_, .inr ⟨_, rfl, by rw [sizeLine_eq]; decide +kernel, rfl⟩, by decide +kernel⟩
  · exact ⟨_, .inr ⟨_, rfl, by rw [sizeLine_eq]; decide +kernel, rfl⟩, by decide +kernel⟩
def spLf (K : PySem.W.Frag) : Sp := fun vs H Q _ => ∃ (z : Str) (v : V) (b : Bool), vs = [.str z, v] ∧ It K H z v b ∧ ∀ H', Same H H' → Q (.bl b) H'
theorem str_kit {K : PySem.W.Frag} : PySem.W.kitOne K (.type "str") (.type "str") = some true := kit_ty (by decide +kernel)
section
variable {P : Program} {w : World} {K : PySem.W.Frag} {mg : Str → Option Value} {base : Heap}
theorem scLf : FnScope ["_law_alphabet_here", "_law_thing", "_law_c"] ["_law_alphabet_here", "_law_thing"] (defScope sLIsFactor) := ⟨rfl, rfl, rfl, by decide +kernel, rfl, by decide +kernel, by decide +kernel⟩
theorem ok_lf (D : Df K mg "_law_is_factor" sLIsFactor ["_law_alphabet_here", "_law_thing"]) (B : Bl mg) (mi : mg "isinstance" = none) (ms : mg "str" = none) (mt : mg "tuple" = none) (mr : mg "repr" = none) : FnOk P w K mg base CX0 1 D.f D.fd ["_law_alphabet_here", "_law_thing"] (spLf K) := by
  refine D.F.ok scLf (fun vs H Q E h => ?_) (fun cdv A outer s H vs Q E hr h => ?_)
  · obtain ⟨z, v, b, rfl, _⟩ := h
    rfl
  · obtain ⟨z, v, b, rfl, it, k⟩ := h
    have sz : ∀ y : Str, y.length = (tl y).length := fun y => (Array.length_toList).symm
    refine ⟨_, (pss_cons (ps_if (pw_or (pt_not (pt_val (pe_callB call_isi (by rfl) mi (by decide +kernel) (pa_cons (pv 1) (pa_cons (pe_bltn (v := V.ty "tuple") (by rfl) mt (by decide +kernel : bootBuiltins "tuple" = some (.type "tuple")) rfl) pa_nil))))) (pw_or (pt_cmpR op_ne (pe_callB call_len_seq (by rfl) B.len PySem.boot_len (pa_cons (pv 1) pa_nil)) pe_int (nomark _)) (pw_or1 (pt_cmpR op_notIn_seq (pe_callB cr_repr2 (by rfl) mr (by decide +kernel) (pa_cons (pe_ix ix_tup (pv 1) pe_int (fun _ _ => rfl)) pa_nil)) (pe_tup (pa_cons pe_str (pa_cons pe_str pa_nil))) rfl)))).pt (pss_one (ps_ret pe_bl)) pss_nil) (pss_cons (ps_if (pw_or (pt_not (pt_val (pe_callB call_isi (by rfl) mi (by decide +kernel) (pa_cons (pe_ix ix_tup (pv 1) pe_int (fun _ _ => rfl)) (pa_cons (pe_bltn (v := V.ty "str") (by rfl) ms (by decide +kernel : bootBuiltins "str" = some (.type "str")) rfl) pa_nil))))) (pw_or (pt_cmpR op_eq (pe_ix ix_tup (pv 1) pe_int (fun _ _ => rfl)) pe_str (nomark _)) (pw_or1 (pt_cmpR (op_neD hr.units) (pe_lc (own := [("_law_c", 2)]) (g := gName 2) rfl scLf.nd (pi_str (pe_ix ix_tup (pv 1) pe_int (fun _ _ => rfl))) (blkOk_by (N := ["_law_alphabet_here", "_law_thing", "_law_c"]) (sc := defScope sLIsFactor) (by decide +kernel)) (fun _ _ _ _ _ => pg_name (i := 2) scLf.nd rfl (Or.inl rfl)) (fun _ _ _ _ _ => (pts_one (pt_cmpR op_notIn_sign (pv 2) (pv 0) rfl))) (fun _ _ _ _ _ => (pv 2))) (pe_lst pa_nil) (nomark _))))).pt (pss_one (ps_ret pe_bl)) pss_nil) (pss_one (ps_ret (pe_or (pe_cmpR op_eq (pe_callB call_len_str (by rfl) B.len PySem.boot_len (pa_cons (pe_ix ix_tup (pv 1) pe_int (fun _ _ => rfl)) pa_nil)) pe_int (nomark _)) (pe_one (pe_and (pe_cmpR op_eq (pe_ix ix_tup (pv 1) pe_int (fun _ _ => rfl)) pe_str (nomark _)) (pe_one (pe_cmpR op_eq (pe_join pe_str (pe_callB (TX.cr_sortTx rfl) (by rfl) B.sorted (by decide +kernel) (pa_cons (pe_callTy (TX.cr_setT rfl) (by rfl) B.set (by decide +kernel) (pa_cons (pe_ix ix_tup (pv 1) pe_int (fun _ _ => rfl)) pa_nil)) pa_nil))) (pe_ix ix_tup (pv 1) pe_int (fun _ _ => rfl)) (nomark _)))))))))), ?_⟩
    cases it with
    | no h =>
      obtain ⟨t, ty, kt⟩ := h
      exact ⟨v, rfl, _, _, _, _, false, rfl, .ty "tuple", ty, kt, false, rfl, iteT (k _ (Same.refl _))⟩
    | @len a xs h n =>
      refine ⟨.ref a, rfl, _, _, _, _, true, rfl, .ty "tuple", sqT_ty h, tup_kit, true, rfl, iteF ?_⟩
      refine ⟨.ref a, rfl, a, _, rfl, .inr h, rfl, _, rfl, ?_⟩
      rw [show (!decide (V.int (xs.length : Int) = V.int 2)) = true by
        rw [decide_eq_false fun e => by
          have := V.int.inj e
          omega]
        rfl]
      exact iteT (k _ (Same.refl _))
    | @nos a kk l h ko n =>
      refine ⟨.ref a, rfl, _, _, _, _, true, rfl, .ty "tuple", sqT_ty h, tup_kit, true, rfl, iteF ?_⟩
      refine ⟨.ref a, rfl, a, _, rfl, .inr h, rfl, _, rfl, iteF ?_⟩
      obtain ⟨r, ro, hr⟩ := ko.repr
      refine ⟨.ref a, rfl, a, _, 0, kk, rfl, rfl, h, atI_nat (j := 0) rfl, kk, r, rfl, ro, ?_⟩
      refine ⟨by show 2 ≤ sizeLine; decide, fun T hT => ?_⟩
      have sT := same_upd (o := .tup [V.str "'opt'", V.str "'star'"]) hT
      refine ⟨T, _, rfl, .inr (SqT.of upd_same), rfl, rfl, _, rfl, ?_⟩
      obtain ⟨t, ty, kt⟩ := n
      refine ite2 (fun e => k _ sT) (fun e => ?_)
      refine ⟨.ref a, rfl, a, _, 1, l, rfl, rfl, same_tup sT _ _ h, atI_nat (j := 1) rfl, _, _, _, _, false, rfl, .ty "str", tyX_same sT ty, kt, false, rfl, iteT (k _ sT)⟩
    | @fac a kk x h ko wx =>
      have xl := wx.1
      rw [← look_eq] at k
      refine ⟨.ref a, rfl, _, _, _, _, true, rfl, .ty "tuple", sqT_ty h, tup_kit, true, rfl, iteF ?_⟩
      refine ⟨.ref a, rfl, a, _, rfl, .inr h, rfl, _, rfl, iteF ?_⟩
      obtain ⟨r, ro, hr⟩ := ko.repr
      refine ⟨.ref a, rfl, a, _, 0, kk, rfl, rfl, h, atI_nat (j := 0) rfl, kk, r, rfl, ro, ?_⟩
      refine ⟨by show 2 ≤ sizeLine; decide, fun T hT => ?_⟩
      have sT := same_upd (o := .tup [V.str "'opt'", V.str "'star'"]) hT
      refine ⟨T, _, rfl, .inr (SqT.of upd_same), rfl, rfl, _, rfl, ?_⟩
      unfold lookB at k
      refine ite2 (fun e => ?_) (fun e => ?_)
      · have e' : inV (.str r) [V.str "'opt'", V.str "'star'"] = false := by simpa using e
        rw [← hr, e'] at k
        exact k _ sT
      have e' : inV (.str r) [V.str "'opt'", V.str "'star'"] = true := by simpa using e
      rw [← hr, e', Bool.true_and] at k
      have hT' := same_tup sT _ _ h
      refine ⟨.ref a, rfl, a, _, 1, .str x, rfl, rfl, hT', atI_nat (j := 1) rfl, _, _, _, _, true, rfl, .ty "str", .base (.str x), str_kit, true, rfl, iteF ?_⟩
      refine ⟨.ref a, rfl, a, _, 1, .str x, rfl, rfl, hT', atI_nat (j := 1) rfl, rfl, _, rfl, ?_⟩
      have xsz : x.length ≤ sizeLine := by
        rw [sz, sizeLine_eq]
        omega
      refine ite2 (fun e1 => ?_) (fun e1 => ?_)
      · have e2 : tl x = [] := by
          have := V.str.inj (of_decide_eq_true e1)
          rw [this]
          rfl
        rw [e2] at k
        exact k _ sT
      have e2 : (!(tl x).isEmpty) = true := by
        cases q : tl x with
        | nil => exact absurd (decide_eq_true (by rw [show x = "" from tl_inj q])) e1
        | cons c r => rfl
      rw [e2, Bool.true_and] at k
      refine ⟨.ref a, rfl, a, _, 1, .str x, rfl, rfl, hT', atI_nat (j := 1) rfl, x, rfl, fun L hL => ?_⟩
      have xs : x.cps.size = (tl x).length := (Array.length_toList).symm
      have sL := sT.trans (same_upd (o := .lst []) hL)
      refine lc_it walk_str (fun i H' => ∃ ds : List Nat, H' L = some (.lst ((ds.map one).map V.str)) ∧ ds = ((tl x).take i).filter (fun c => !decide (c ∈ tl z)) ∧ Same H H') ⟨[], upd_same, rfl, sL⟩ (fun _ _ _ _ => trivial) ?_ ?_
      · rintro i v G G' hi ⟨ds, gL, de, sm⟩ ⟨rfl, d, hd, rfl⟩
        have hd' : (tl x)[i]? = some d := by rw [Array.getElem?_toList]; exact hd
        have dl : ds.length ≤ 1000 := by
          rw [de]
          exact Nat.le_trans (List.length_filter_le _ _) (Nat.le_trans (List.length_take_le' ..) (by omega))
        have tk : ((tl x).take (i + 1)).filter (fun c => !decide (c ∈ tl z)) = ds ++ [d].filter (fun c => !decide (c ∈ tl z)) := by
          rw [de, List.take_add_one, hd', ← List.filter_append]
          rfl
        refine ⟨rfl, _, rfl, .str z, rfl, d, z, rfl, rfl, _, rfl, ite2 (fun e2 => ?_) (fun e2 => ?_)⟩
        · refine ⟨_, rfl, _, gL, by rw [List.length_map, List.length_map, sizeLine_eq]; omega, ds ++ [d], ?_, ?_, fun b u e => (upd_ne (ne_of_none e (sT.free hL))).trans (sm _ _ e)⟩
          · rw [upd_same, List.map_append, List.map_append]
            rfl
          · rw [tk, List.filter_cons_of_pos (p := fun c => !decide (c ∈ tl z)) e2]
            rfl
        · refine ⟨ds, gL, ?_, sm⟩
          rw [tk, List.filter_cons_of_neg (p := fun c => !decide (c ∈ tl z)) e2, List.filter_nil, List.append_nil]
      · rintro G ⟨ds, gL, de, sm⟩
        rw [xs, List.take_length] at de
        refine ⟨by show 0 ≤ sizeLine; decide, fun p hp => ?_⟩
        have sp := same_upd (o := .lst []) hp
        refine ⟨strD (ds.map one), .list [], str_dp (SqL.of (sp _ _ gL)), .lst (SqL.of upd_same) .nil, str_shaped (ones_ok fun c hc => wx.2 c (by rw [de] at hc; exact (List.mem_filter.mp hc).1)), nil_shaped, _, rfl, ?_⟩
        rw [str_eqv_nil]
        have sm1 := sm.trans sp
        have e3 : (ds.map one).isEmpty = (tl x).all (fun c => decide (c ∈ tl z)) := by
          rw [de, Bool.eq_iff_iff, List.isEmpty_iff, List.map_eq_nil_iff, List.filter_eq_nil_iff, List.all_eq_true]
          simp
        rw [e3]
        refine ite2 (fun e4 => ?_) (fun e4 => ?_)
        · rw [show (tl x).all (fun c => decide (c ∈ tl z)) = false by simpa using e4] at k
          exact k _ sm1
        · rw [show (tl x).all (fun c => decide (c ∈ tl z)) = true by simpa using e4, Bool.true_and] at k
          have h2 := same_tup sm1 _ _ h
          refine ⟨.ref a, rfl, a, _, 1, .str x, rfl, rfl, h2, atI_nat (j := 1) rfl, x, rfl, xsz, rfl, _, rfl, ?_⟩
          have e5 : decide (V.int (x.length : Int) = V.int 1) = decide ((tl x).length = 1) := by
            rw [decide_eq_decide, sz]
            constructor
            · intro e
              have := V.int.inj e
              omega
            · intro e
              rw [e]
              rfl
          rw [e5]
          refine ite2 (fun e6 => ?_) (fun e6 => ?_)
          · rw [e6] at k
            exact k _ sm1
          rw [show decide ((tl x).length = 1) = false by simpa using e6, Bool.false_or] at k
          refine ⟨.ref a, rfl, a, _, 0, kk, rfl, rfl, h2, atI_nat (j := 0) rfl, ko.scal _, _, rfl, ?_⟩
          refine ite2 (fun e7 => ?_) (fun e7 => ?_)
          · rw [show decide (kk = V.str "star") = true from e7, Bool.true_and] at k
            refine ⟨⟨_, rfl⟩, .ref a, rfl, a, _, 1, .str x, rfl, rfl, h2, atI_nat (j := 1) rfl, x, rfl, by rw [sz]; unfold scanBound; omega, fun aa ls ea nd mem le => ?_⟩
            have sa := same_upd (o := TX.SetTx P w aa ls) ea
            rw [sz] at le
            refine ⟨aa, ls, rfl, upd_same, by omega, fun ys p pm so hp => ?_⟩
            have sp2 := same_upd (o := .lst (ys.map V.str)) hp
            obtain ⟨ej, h1⟩ := set_join nd mem pm so
            have yl : ys.length ≤ 20 := by rw [pm.length_eq]; omega
            refine ⟨"", p, ys, rfl, rfl, .inl (SqL.of upd_same), ?_, ?_⟩
            · rw [sum_ones _ h1]
              show ys.length + ys.length * 0 ≤ 16777216
              omega
            have sA := (sm1.trans sa).trans sp2
            refine ⟨.ref a, rfl, a, _, 1, .str x, rfl, rfl, same_tup sA _ _ h, atI_nat (j := 1) rfl, rfl, ?_⟩
            rw [ej]
            exact k _ sA
          · rw [show decide (kk = V.str "star") = false by simpa using e7] at k
            exact k _ sm1
end
end DW
/-! k05: objects near products -/
namespace DW
open PySem PySem.Spec PyProof.Rows L2 TL
set_option autoImplicit false
def ItE (K : PySem.W.Frag) (H : Hp) (z : Str) (v : V) : Prop := ∃ b, It K H z v b
def AllIt (K : PySem.W.Frag) (H : Hp) (z : Str) (vs : List V) : Prop := ∀ y ∈ vs, ItE K H z y
theorem AllIt.nil {K : PySem.W.Frag} {H : Hp} {z : Str} : AllIt K H z [] := fun y hy => (nomatch hy)
theorem AllIt.same {K : PySem.W.Frag} {H H' : Hp} {z : Str} {vs : List V} (s : Same H H') (h : AllIt K H z vs) : AllIt K H' z vs := fun y hy => by
  obtain ⟨b, q⟩ := h y hy
  exact ⟨b, q.same s⟩
theorem AllIt.kp {K : PySem.W.Frag} {H H' : Hp} {t : Addr} {z : Str} {vs : List V} (s : Kp t H H') (h : AllIt K H z vs) : AllIt K H' z vs := fun y hy => by
  obtain ⟨b, q⟩ := h y hy
  exact ⟨b, q.kp s⟩
theorem AllIt.cons {K : PySem.W.Frag} {H : Hp} {z : Str} {v : V} {vs : List V} (a : ItE K H z v) (h : AllIt K H z vs) : AllIt K H z (v :: vs) := fun y hy => by
  rcases List.mem_cons.mp hy with q | q
  · rw [q]
    exact a
  · exact h y q
theorem AllIt.app {K : PySem.W.Frag} {H : Hp} {z : Str} {us vs : List V} (a : AllIt K H z us) (h : AllIt K H z vs) : AllIt K H z (us ++ vs) := fun y hy => by
  rcases List.mem_append.mp hy with q | q
  · exact a y q
  · exact h y q
theorem ItE.same {K : PySem.W.Frag} {H H' : Hp} {z : Str} {v : V} (s : Same H H') (h : ItE K H z v) : ItE K H' z v := by
  obtain ⟨b, q⟩ := h
  exact ⟨b, q.same s⟩
section
variable {K : PySem.W.Frag} {H : Hp} {z : Str}
theorem it_fac {p : Addr} {k : V} {x : Str} (kk : KOk k) (wx : Wd 20 x) : ItE K (upd H p (.tup [k, .str x])) z (.ref p) := ⟨_, .fac (SqT.of upd_same) kk wx⟩
theorem it_str (x : Str) : ItE K H z (.str x) := ⟨_, .no ⟨_, .base (.str x), kit_ty (by decide +kernel)⟩⟩
theorem it_non : ItE K H z .non := ⟨_, .no ⟨_, .base .non, kit_ty (by decide +kernel)⟩⟩
theorem it_int (i : Int) : ItE K H z (.int i) := ⟨_, .no ⟨_, .base (.int i), kit_ty (by decide +kernel)⟩⟩
theorem it_bl (b : Bool) : ItE K H z (.bl b) := ⟨_, .no ⟨_, .base (.bl b), kit_ty (by decide +kernel)⟩⟩
theorem nos_int (i : Int) : NoS K H (.int i) := ⟨_, .base (.int i), kit_ty (by decide +kernel)⟩
theorem nos_non : NoS K H .non := ⟨_, .base .non, kit_ty (by decide +kernel)⟩
theorem not_lst {a : Addr} {xs : List V} (h : H a = some (.lst xs)) : NoT K H (.ref a) := ⟨_, .base (.lst h), kit_ty (by decide +kernel)⟩
theorem nos_lst {a : Addr} {xs : List V} (h : H a = some (.lst xs)) : NoS K H (.ref a) := ⟨_, .base (.lst h), kit_ty (by decide +kernel)⟩
theorem not_dk {a : Addr} {kvs : List (Key × V)} (h : H a = some (.dK kvs)) : NoT K H (.ref a) := ⟨_, .base (.dK h), kit_ty (by decide +kernel)⟩
theorem IsF.it {v : V} {f : Fc} (h : IsF K H v f) (fo : FOk z f) (al : Alph z) : ItE K H z v := by
  obtain ⟨a, rfl, hq⟩ := h
  refine ⟨_, .fac hq (KOk.kd _) ⟨Nat.le_trans fo.2.1.length_le (Nat.le_trans al.2.2.1 (by decide)), fun c hc => ?_⟩⟩
  have := al.2.2.2 c (fo.2.1.subset hc)
  omega
theorem IsFs.its (al : Alph z) {vs : List V} {fs : List Fc} (h : IsFs K H vs fs) (fo : ∀ f ∈ fs, FOk z f) : AllIt K H z vs := by
  intro y hy
  obtain ⟨i, hi⟩ := List.getElem?_of_mem hy
  obtain ⟨f, hf, isf⟩ := h.get i y hi
  exact isf.it (fo f (List.mem_of_getElem? hf)) al
end
/-- a thing: no tuple, or a tuple of such objects -/
def Thg (K : PySem.W.Frag) (H : Hp) (z : Str) (B : Nat) (v : V) : Prop := NoT K H v ∨ ∃ a xs, v = .ref a ∧ SqT K H a xs ∧ AllIt K H z xs ∧ xs.length ≤ B
def spBent (K : PySem.W.Frag) : Sp := fun vs H Q _ => ∃ (t c : Addr) (n : Nat) (z : Str) (a : Addr) (xs : List V) (B : Nat), vs = [.ref t, .str z, .ref a] ∧ Tape H t c n ∧ n + 100 < 2 ^ 40 ∧ Alph z ∧ SqT K H a xs ∧ AllIt K H z xs ∧ xs.length ≤ B ∧ B ≤ 1000 ∧
  ∀ H' u, Kp t H H' → Tape H' t c (n + 100) → Thg K H' z (B + 2) u → Q u H'
section
variable {P : Program} {w : World} {K : PySem.W.Frag} {mg : Str → Option Value} {base : Heap}
theorem scBent : FnScope ["_law_tape", "_law_alphabet_here", "_law_product_here", "_law_place", "_law_factor_here", "_law_letters", "_law_odd"] ["_law_tape", "_law_alphabet_here", "_law_product_here"] (defScope sLBent) := ⟨rfl, rfl, rfl, by decide +kernel, rfl, by decide +kernel, by decide +kernel⟩
theorem ok_bent (D : Df K mg "_law_bent" sLBent ["_law_tape", "_law_alphabet_here", "_law_product_here"]) (Df0 : Df K mg "_law_factor" sFactor ["_law_tape", "_law_alphabet_here"]) (Dd : DfDraw K mg) (Dp0 : DfPick K mg) (B : Bl mg) (ml : mg "list" = none) : FnOk P w K mg base CX0 4 D.f D.fd ["_law_tape", "_law_alphabet_here", "_law_product_here"] (spBent K) := by
  have Gd : FnOk P w K mg base CX0 1 Dd.f Dd.fd ["_law_tape", "_law_many"] spDraw := ok_draw Dd B.len
  have Gp : FnOk P w K mg base CX0 2 Dp0.f Dp0.fd ["_law_tape", "_law_items"] (spPick K) := ok_pick Dp0 Dd B.len
  have Gf : FnOk P w K mg base CX0 3 Df0.f Df0.fd ["_law_tape", "_law_alphabet_here"] (spFactor K) := ok_factor Df0 Dd Dp0 B
  refine D.F.ok scBent (fun vs H Q E h => ?_) (fun cdv A outer s H vs Q E hr h => ?_)
  · obtain ⟨t, c, n, z, a, xs, B, rfl, _⟩ := h
    rfl
  · obtain ⟨t, c, n, z, a, xs, Bd, rfl, T, hn, al, ha, hx, xB, B1, k⟩ := h
    have hr1 : Room 1 _ := hr.mono (by decide)
    have hr2 : Room 2 _ := hr.mono (by decide)
    have sz : ∀ y : Str, y.length = (tl y).length := fun y => (Array.length_toList).symm
    refine ⟨_, (pss_cons (ps_par (i := 3) (j := 4) rfl scBent.nd rfl rfl (by decide) rfl rfl (pa_cons (pe_call Gd hr1 (by rfl) Dd.g Dd.F.kp Dd.b .nil pass0 (pa_cons (pv 0) (pa_cons (pe_op op_add (pe_callB call_len_seq (by rfl) B.len PySem.boot_len (pa_cons (pv 2) pa_nil)) pe_int) pa_nil))) (pa_cons (pe_call Gf hr (by rfl) Df0.g Df0.F.kp Df0.b .nil pass0 (pa_cons (pv 0) (pa_cons (pv 1) pa_nil))) pa_nil)) (by rfl)) (pss_cons (ps_set (i := 5) scBent.nd rfl (.inl rfl) (pe_op op_add_str (pv 1) pe_str)) (C8.pss_cut (ps_set (i := 6) scBent.nd rfl (.inl rfl) (pe_lst (pa_cons (pe_tup (pa_cons pe_str (pa_cons (pe_slice sl_str (pv 5) (po_some (pe_un un_neg pe_int)) po_none) pa_nil))) (pa_cons (pe_tup (pa_cons pe_str (pa_cons pe_str pa_nil))) (pa_cons (pe_tup (pa_cons pe_str (pa_cons pe_str pa_nil))) (pa_cons (pe_tup (pa_cons pe_str (pa_cons (R1.pe_revT (pv 5)) pa_nil))) (pa_cons (pe_tup (pa_cons pe_str (pa_cons (pe_op op_repS (pe_ix ix_str (pv 1) pe_int (fun _ _ => rfl)) pe_int) pa_nil))) (pa_cons pe_str pa_nil)))))))) (C8.pss_cut (ps_set (i := 6) scBent.nd rfl (.inl rfl) (pe_op op_cat (pv 6) (pe_lst (pa_cons (pe_tup (pa_cons pe_str (pa_cons pe_str pa_nil))) (pa_cons (pe_tup (pa_cons pe_str (pa_cons pe_str pa_nil))) (pa_cons (pe_tup (pa_cons pe_str (pa_cons (pe_ix ix_str (pv 1) pe_int (fun _ _ => rfl)) pa_nil))) (pa_cons (pe_tup (pa_cons (pe_ix ix_tup (pv 4) pe_int (fun _ _ => rfl)) pa_nil)) (pa_cons (pe_op op_catA (pv 4) (pe_tup (pa_cons pe_str pa_nil))) (pa_cons (pe_callTy call_list_of (by rfl) ml (by decide +kernel) (pa_cons (pv 4) pa_nil)) (pa_cons pe_non pa_nil)))))))))) (C8.pss_cut (ps_set (i := 6) scBent.nd rfl (.inl rfl) (pe_op op_cat (pv 6) (pe_lst (pa_cons (pe_tup (pa_cons pe_non (pa_cons (pe_ix ix_str (pv 1) pe_int (fun _ _ => rfl)) pa_nil))) (pa_cons (pe_tup (pa_cons pe_str (pa_cons pe_int pa_nil))) (pa_cons (pe_tup (pa_cons pe_str (pa_cons pe_non pa_nil))) (pa_cons (pe_tup (pa_cons pe_str (pa_cons (pe_callTy (R1.cr_listT rfl) (by rfl) ml (by decide +kernel) (pa_cons (pv 1) pa_nil)) pa_nil))) (pa_cons pe_int (pa_cons pe_bl (pa_cons (pe_tup pa_nil) pa_nil)))))))))) (C8.pss_cut (ps_set (i := 6) scBent.nd rfl (.inl rfl) (pe_op op_cat (pv 6) (pe_lst (pa_cons (pe_tup (pa_cons pe_str (pa_cons (pv 1) pa_nil))) (pa_cons (pe_tup (pa_cons pe_str (pa_cons (R1.pe_revT (pv 1)) pa_nil))) (pa_cons (pe_tup (pa_cons pe_str (pa_cons (pe_slice sl_str (pv 1) (po_some (pe_un un_neg pe_int)) po_none) pa_nil))) pa_nil)))))) (pss_cons (ps_if (pt_cmpR op_gt (pe_call Gd hr1 (by rfl) Dd.g Dd.F.kp Dd.b .nil pass0 (pa_cons (pv 0) (pa_cons pe_int pa_nil))) pe_int (nomark _)) (pss_one (ps_ret (pe_op op_catA (pe_op op_catA (pe_slice sl_tupA (pv 2) po_none (po_some (pv 3))) (pe_tup (pa_cons (pe_call Gp hr2 (by rfl) Dp0.g Dp0.F.kp Dp0.b .nil pass0 (pa_cons (pv 0) (pa_cons (pv 6) pa_nil))) pa_nil))) (pe_slice sl_tupA (pv 2) (po_some (pe_op op_add (pv 3) (pe_call Gd hr1 (by rfl) Dd.g Dd.F.kp Dd.b .nil pass0 (pa_cons (pv 0) (pa_cons pe_int pa_nil))))) po_none)))) pss_nil) (pss_one (ps_ret (pe_call Gp hr2 (by rfl) Dp0.g Dp0.F.kp Dp0.b .nil pass0 (pa_cons (pv 0) (pa_cons (pe_lst (pa_cons (pe_callTy call_list_of (by rfl) ml (by decide +kernel) (pa_cons (pv 2) pa_nil)) (pa_cons pe_non (pa_cons pe_str (pa_cons pe_str (pa_cons pe_int (pa_cons pe_bl (pa_cons pe_dnewK (pa_cons (pe_tup (pa_cons pe_str (pa_cons (pe_ix ix_str (pv 1) pe_int (fun _ _ => rfl)) pa_nil))) (pa_cons (pe_tup (pa_cons pe_str (pa_cons (pv 1) pa_nil))) pa_nil)))))))))) pa_nil)))))))))))), ?_⟩
    refine ⟨.ref t, rfl, .ref a, rfl, a, xs, rfl, .inr ha, _, 1, rfl, rfl, t, c, _, n, rfl, T, by omega, by omega, by omega, fun H1 pl k1 T1 pl0 pl1 => ?_⟩
    refine ⟨.ref t, rfl, .str z, rfl, t, c, _, z, rfl, T1, by omega, al, fun H2 vf f k2 T2 isf fok => ⟨_, _, rfl, ?_⟩⟩
    have wz : Wd 3 z := ⟨al.2.2.1, fun c hc => by have := al.2.2.2 c hc; omega⟩
    have wy : Wd 1 "y" := by unfold Wd; decide +kernel
    have we : Wd 20 "" := by unfold Wd; decide +kernel
    have wl := wz.app wy
    have z3 := wz.1
    obtain ⟨c0, hc0⟩ : ∃ c0, (tl z)[0]? = some c0 := by
      cases q : tl z with
      | nil =>
        have := al.2.1
        rw [q] at this
        cases this
      | cons x r => exact ⟨x, rfl⟩
    have c0l : c0 < 128 := wz.2 c0 (List.mem_of_getElem? hc0)
    have w0 : Wd 20 (one c0) := ⟨by rw [tl_one]; show 1 ≤ 20; decide, fun c hc => by rw [tl_one] at hc; rw [List.mem_singleton.mp hc]; exact c0l⟩
    have zsz : z.length ≤ sizeLine := by rw [sz, sizeLine_eq]; omega
    have k02 := k1.trans k2
    refine ⟨.str z, rfl, z, "y", rfl, rfl, ?_, ?_⟩
    · have : ("y" : Str).length = 1 := by decide +kernel
      rw [this, sz, sizeLine_eq]
      omega
    have lsz : (z ++ "y" : Str).length ≤ sizeLine := by
      have := wl.1
      rw [sz, sizeLine_eq]
      omega
    -- the first six
    refine ⟨fun σ' H' => ∃ (O : Addr) (os : List V), σ' = [some (.ref t), some (.str z), some (.ref a), some (.int pl), some vf, some (.str (z ++ "y")), some (.ref O)] ∧ H' O = some (.lst os) ∧ AllIt K H' z os ∧ os.length ≤ 6 ∧ Same H2 H', ?_, ?_⟩
    · refine ⟨.str (z ++ "y"), rfl, 2, rfl, -2, rfl, ?_⟩
      unfold tNoPart
      refine ⟨_, rfl, lsz, by show 2 ≤ sizeLine; decide, fun p1 e1 => ?_⟩
      have s1 := same_upd (o := .tup [V.str "opt", .str (cutS (z ++ "y") (some (-2)) none)]) e1
      refine ⟨by show 2 ≤ sizeLine; decide, fun p2 e2 => ⟨by show 2 ≤ sizeLine; decide, fun p3 e3 => ?_⟩⟩
      have s2 := same_upd (o := .tup [V.str "opt", .str ""]) e2
      have s3 := same_upd (o := .tup [V.str "star", .str ""]) e3
      refine ⟨.str (z ++ "y"), rfl, _, rfl, lsz, fun yr hyr myr => ⟨by show 2 ≤ sizeLine; decide, fun p4 e4 => ?_⟩⟩
      have wr : Wd 20 yr := ⟨by rw [sz, sz] at hyr; have := wl.1; omega, fun c hc => wl.2 c (myr c hc)⟩
      have s4 := same_upd (o := .tup [V.str "star", .str yr]) e4
      refine ⟨.str z, rfl, z, 0, c0, rfl, rfl, zsz, at_cp (j := 0) rfl hc0, one c0, 2, rfl, rfl, by decide, by decide, by rw [sz, tl_one]; show 1 ≤ 1000; decide, fun r2 hr2 => ⟨by show 2 ≤ sizeLine; decide, fun p5 e5 => ?_⟩⟩
      have w2 : Wd 20 r2 := by
        have e : tl r2 = [c0, c0] := hr2
        exact ⟨by rw [e]; show 2 ≤ 20; decide, fun c hc => by rw [e] at hc; simp at hc; omega⟩
      have s5 := same_upd (o := .tup [V.str "star", .str r2]) e5
      refine ⟨by show 6 ≤ sizeLine; decide, fun O eO => ?_⟩
      have sO := same_upd (o := .lst [V.ref p1, .ref p2, .ref p3, .ref p4, .ref p5, .str "a?"]) eO
      refine ⟨O, _, rfl, upd_same, ?_, by show 6 ≤ 6; decide, (((((s1.trans s2).trans s3).trans s4).trans s5).trans sO)⟩
      have kO : KOk (.str "opt") := .inr (.inl rfl)
      have kS : KOk (.str "star") := .inr (.inr (.inl rfl))
      exact .cons (ItE.same sO (ItE.same s5 (ItE.same s4 (ItE.same s3 (ItE.same s2 (it_fac kO ((wl.cut _ _).mono (by decide))))))))
        (.cons (ItE.same sO (ItE.same s5 (ItE.same s4 (ItE.same s3 (it_fac kO we)))))
        (.cons (ItE.same sO (ItE.same s5 (ItE.same s4 (it_fac kS we))))
        (.cons (ItE.same sO (ItE.same s5 (it_fac kS wr)))
        (.cons (ItE.same sO (it_fac kS w2)) (.cons (it_str _) .nil)))))
    rintro σ' H3 ⟨O, os, rfl, hO, aO, lO, s23⟩
    -- seven more
    refine ⟨fun σ' H' => ∃ (O : Addr) (os : List V), σ' = [some (.ref t), some (.str z), some (.ref a), some (.int pl), some vf, some (.str (z ++ "y")), some (.ref O)] ∧ H' O = some (.lst os) ∧ AllIt K H' z os ∧ os.length ≤ 13 ∧ Same H2 H', ?_, ?_⟩
    · obtain ⟨af, rfl, haf⟩ := id (isf.mono (same_tup s23))
      have kO : KOk (.str "opt") := .inr (.inl rfl)
      have kS : KOk (.str "star") := .inr (.inr (.inl rfl))
      have kP : KOk (.str "Opt") := .inr (.inr (.inr rfl))
      refine ⟨.ref O, rfl, by show 2 ≤ sizeLine; decide, fun p1 e1 => ⟨by show 2 ≤ sizeLine; decide, fun p2 e2 => ?_⟩⟩
      have s1 := same_upd (o := .tup [V.str "opt", .str "y"]) e1
      have s2 := same_upd (o := .tup [V.str "star", .str "y"]) e2
      refine ⟨.str z, rfl, z, 0, c0, rfl, rfl, zsz, at_cp (j := 0) rfl hc0, by show 2 ≤ sizeLine; decide, fun p3 e3 => ?_⟩
      have s3 := same_upd (o := .tup [V.str "Opt", .str (one c0)]) e3
      have s13 := (s1.trans s2).trans s3
      refine ⟨.ref af, rfl, af, _, 0, .str (kd f.1), rfl, rfl, same_tup s13 _ _ haf, atI_nat (j := 0) rfl, by show 1 ≤ sizeLine; decide, fun p4 e4 => ?_⟩
      have s4 := same_upd (o := .tup [V.str (kd f.1)]) e4
      refine ⟨.ref af, rfl, by show 1 ≤ sizeLine; decide, fun p5 e5 => ?_⟩
      have s5 := same_upd (o := .tup [V.str "a"]) e5
      have s15 := (s13.trans s4).trans s5
      refine cat_any (same_tup s15 _ _ haf) (SqT.of upd_same) (by show 2 + 1 ≤ sizeLine; decide) fun H6 p6 s6 hp6 => ?_
      have s16 := s15.trans s6
      refine ⟨.ref af, rfl, af, _, rfl, .inr (same_tup s16 _ _ haf), fun p7 e7 => ?_⟩
      have s7 := same_upd (o := .lst [V.str (kd f.1), .str f.2]) e7
      refine ⟨by show 7 ≤ sizeLine; decide, fun p8 e8 => ?_⟩
      have s8 := same_upd (o := .lst [V.ref p1, .ref p2, .ref p3, .ref p4, .ref p6, .ref p7, .non]) e8
      have s18 := (s16.trans s7).trans s8
      refine ⟨O, p8, _, _, rfl, rfl, s18 _ _ hO, upd_same, by show os.length + 7 ≤ sizeLine; rw [sizeLine_eq]; omega, fun p9 e9 => ?_⟩
      have s9 := same_upd (o := .lst (os ++ [V.ref p1, .ref p2, .ref p3, .ref p4, .ref p6, .ref p7, .non])) e9
      refine ⟨p9, _, rfl, upd_same, ?_, by rw [List.length_append]; show os.length + 7 ≤ 13; omega, (s23.trans s18).trans s9⟩
      have s49 := ((((s4.trans s5).trans s6).trans s7).trans s8).trans s9
      refine AllIt.app (aO.same (s18.trans s9)) ?_
      exact .cons (ItE.same s49 (ItE.same s3 (ItE.same s2 (it_fac kO (wy.mono (by decide))))))
        (.cons (ItE.same s49 (ItE.same s3 (it_fac kS (wy.mono (by decide)))))
        (.cons (ItE.same s49 (it_fac kP w0))
        (.cons ⟨_, .len (same_tup ((((s5.trans s6).trans s7).trans s8).trans s9) _ _ (SqT.of upd_same)) (by show 1 ≠ 2; decide)⟩
        (.cons ⟨_, .len (same_tup ((s7.trans s8).trans s9) _ _ hp6) (by show 3 ≠ 2; decide)⟩
        (.cons (ItE.same s9 (ItE.same s8 ⟨_, .no (not_lst upd_same)⟩)) (.cons it_non .nil))))))
    rintro σ' H4 ⟨O, os, rfl, hO, aO, lO, s24⟩
    -- seven more
    refine ⟨fun σ' H' => ∃ (O : Addr) (os : List V), σ' = [some (.ref t), some (.str z), some (.ref a), some (.int pl), some vf, some (.str (z ++ "y")), some (.ref O)] ∧ H' O = some (.lst os) ∧ AllIt K H' z os ∧ os.length ≤ 20 ∧ Same H2 H', ?_, ?_⟩
    · have kO : KOk (.str "opt") := .inr (.inl rfl)
      have kS : KOk (.str "star") := .inr (.inr (.inl rfl))
      refine ⟨.ref O, rfl, .str z, rfl, z, 0, c0, rfl, rfl, zsz, at_cp (j := 0) rfl hc0, by show 2 ≤ sizeLine; decide, fun p1 e1 => ?_⟩
      have s1 := same_upd (o := .tup [V.non, .str (one c0)]) e1
      refine ⟨by show 2 ≤ sizeLine; decide, fun p2 e2 => ⟨by show 2 ≤ sizeLine; decide, fun p3 e3 => ?_⟩⟩
      have s2 := same_upd (o := .tup [V.str "opt", .int 1]) e2
      have s3 := same_upd (o := .tup [V.str "star", .non]) e3
      refine ⟨.str z, rfl, z, rfl, zsz, fun p4 ss e4 => ⟨by show 2 ≤ sizeLine; decide, fun p5 e5 => ?_⟩⟩
      have s4 := same_upd (o := .lst (ss.map V.str)) e4
      have s5 := same_upd (o := .tup [V.str "star", .ref p4]) e5
      refine ⟨by show 0 ≤ sizeLine; decide, fun p6 e6 => ?_⟩
      have s6 := same_upd (o := .tup []) e6
      refine ⟨by show 7 ≤ sizeLine; decide, fun p8 e8 => ?_⟩
      have s8 := same_upd (o := .lst [V.ref p1, .ref p2, .ref p3, .ref p5, .int 0, .bl true, .ref p6]) e8
      have s18 := (((((s1.trans s2).trans s3).trans s4).trans s5).trans s6).trans s8
      refine ⟨O, p8, _, _, rfl, rfl, s18 _ _ hO, upd_same, by show os.length + 7 ≤ sizeLine; rw [sizeLine_eq]; omega, fun p9 e9 => ?_⟩
      have s9 := same_upd (o := .lst (os ++ [V.ref p1, .ref p2, .ref p3, .ref p5, .int 0, .bl true, .ref p6])) e9
      refine ⟨p9, _, rfl, upd_same, ?_, by rw [List.length_append]; show os.length + 7 ≤ 20; omega, (s24.trans s18).trans s9⟩
      have s49 := (((s4.trans s5).trans s6).trans s8).trans s9
      have s69 := (s6.trans s8).trans s9
      refine AllIt.app (aO.same (s18.trans s9)) ?_
      exact .cons (ItE.same s49 (ItE.same s3 (ItE.same s2 (it_fac (.inl rfl) w0))))
        (.cons (ItE.same s49 (ItE.same s3 ⟨_, .nos (SqT.of upd_same) kO (nos_int 1)⟩))
        (.cons (ItE.same s49 ⟨_, .nos (SqT.of upd_same) kS nos_non⟩)
        (.cons (ItE.same s69 ⟨_, .nos (SqT.of upd_same) kS (nos_lst (s5 _ _ upd_same))⟩)
        (.cons (it_int 0) (.cons (it_bl true) (.cons (ItE.same s9 (ItE.same s8 ⟨_, .len (SqT.of upd_same) (by decide)⟩)) .nil))))))
    rintro σ' H5 ⟨O, os, rfl, hO, aO, lO, s25⟩
    -- the last three
    refine ⟨fun σ' H' => ∃ (O : Addr) (os : List V), σ' = [some (.ref t), some (.str z), some (.ref a), some (.int pl), some vf, some (.str (z ++ "y")), some (.ref O)] ∧ H' O = some (.lst os) ∧ AllIt K H' z os ∧ os.length ≤ 23 ∧ os ≠ [] ∧ Same H2 H', ?_, ?_⟩
    · have kO : KOk (.str "opt") := .inr (.inl rfl)
      have kS : KOk (.str "star") := .inr (.inr (.inl rfl))
      refine ⟨.ref O, rfl, .str z, rfl, by show 2 ≤ sizeLine; decide, fun p1 e1 => ?_⟩
      have s1 := same_upd (o := .tup [V.str "star", .str z]) e1
      refine ⟨.str z, rfl, z, rfl, zsz, fun yr hyr myr => ⟨by show 2 ≤ sizeLine; decide, fun p2 e2 => ?_⟩⟩
      have wr : Wd 20 yr := ⟨by rw [sz, sz] at hyr; omega, fun c hc => wz.2 c (myr c hc)⟩
      have s2 := same_upd (o := .tup [V.str "star", .str yr]) e2
      refine ⟨.str z, rfl, 2, rfl, -2, rfl, ?_⟩
      unfold tNoPart
      refine ⟨_, rfl, zsz, by show 2 ≤ sizeLine; decide, fun p3 e3 => ?_⟩
      have s3 := same_upd (o := .tup [V.str "opt", .str (cutS z (some (-2)) none)]) e3
      refine ⟨by show 3 ≤ sizeLine; decide, fun p8 e8 => ?_⟩
      have s8 := same_upd (o := .lst [V.ref p1, .ref p2, .ref p3]) e8
      have s18 := ((s1.trans s2).trans s3).trans s8
      refine ⟨O, p8, _, _, rfl, rfl, s18 _ _ hO, upd_same, by show os.length + 3 ≤ sizeLine; rw [sizeLine_eq]; omega, fun p9 e9 => ?_⟩
      have s9 := same_upd (o := .lst (os ++ [V.ref p1, .ref p2, .ref p3])) e9
      refine ⟨p9, _, rfl, upd_same, ?_, by rw [List.length_append]; show os.length + 3 ≤ 23; omega, by simp, (s25.trans s18).trans s9⟩
      have s89 := s8.trans s9
      refine AllIt.app (aO.same (s18.trans s9)) ?_
      exact .cons (ItE.same s89 (ItE.same s3 (ItE.same s2 (it_fac kS (wz.mono (by decide))))))
        (.cons (ItE.same s89 (ItE.same s3 (it_fac kS wr)))
        (.cons (ItE.same s89 (it_fac kO ((wz.cut _ _).mono (by decide)))) .nil))
    rintro σ' H6 ⟨O, os, rfl, hO, aO, lO, nO, s26⟩
    have T6 := T2.same s26
    have k06 : Kp t H H6 := k02.trans (T2.kp s26)
    refine ⟨.ref t, rfl, t, c, 5, _, rfl, T6, by omega, by decide, by decide, fun H7 r k7 T7 r0 r1 => ?_⟩
    have k07 := k06.trans k7
    refine ⟨_, _, rfl, rfl, _, rfl, ite2 (fun e => ?_) (fun e => ?_)⟩
    · refine ⟨.ref a, rfl, .int pl, rfl, pl, rfl, sl_any (k07.tup ha) fun H8 b1 s8 hb1 => ?_⟩
      have T8 := T7.same s8
      have hO8 := s8 _ _ (k7.at hO fun _ z => by cases z)
      refine ⟨.ref t, rfl, .ref O, rfl, t, c, _, .ref O, rfl, T8, by omega, .inl ⟨O, os, rfl, SqL.of hO8, nO, by omega, fun H9 y k9 T9 hy => ?_⟩⟩
      have ity : ItE K H9 z y := by
        obtain ⟨b, q⟩ := aO y hy
        exact ⟨b, ((q.kp k7).same s8).kp k9⟩
      refine ⟨by show 1 ≤ sizeLine; decide, fun b2 hb2 => ?_⟩
      have s10 := same_upd (o := .tup [y]) hb2
      have cl1 := cutV_length xs none (some pl)
      refine cat_any (same_tup s10 _ _ (k9.tup hb1)) (SqT.of upd_same) (by show _ + 1 ≤ _; rw [sizeLine_eq]; omega) fun H11 b3 s11 hb3 => ?_
      have T11 := (T9.same s10).same s11
      refine ⟨.ref a, rfl, .int pl, rfl, .ref t, rfl, t, c, 2, _, rfl, T11, by omega, by decide, by decide, fun H12 r2 k12 T12 r20 r21 => ?_⟩
      refine ⟨pl, r2, rfl, rfl, pl + r2, rfl, ?_⟩
      unfold tNoPart
      have k011 : Kp t H H11 := ((((k07.trans (T7.kp s8)).trans k9).trans (T9.kp s10))).trans ((T9.same s10).kp s11)
      refine sl_any (k12.tup (k011.tup ha)) fun H13 b4 s13 hb4 => ?_
      have cl2 := cutV_length xs (some (pl + r2)) none
      refine cat_any (same_tup s13 _ _ (k12.tup hb3)) hb4 (by rw [List.length_append, sizeLine_eq]; show _ + 1 + _ ≤ _; omega) fun H14 b5 s14 hb5 => ?_
      have T14 := (T12.same s13).same s14
      have k014 : Kp t H H14 := ((k011.trans k12).trans (T12.kp s13)).trans ((T12.same s13).kp s14)
      refine k _ _ k014 (T14.mono (by omega)) (.inr ⟨b5, _, rfl, hb5, ?_, ?_⟩)
      · have it14 : ItE K H14 z y := by
          obtain ⟨b, q⟩ := ity
          exact ⟨b, (((((q.same s10).same s11).kp k12).same s13).same s14)⟩
        have hx14 := hx.kp k014
        have sub1 : ∀ y ∈ cutV xs none (some pl), y ∈ xs := fun y hy => by
          unfold cutV at hy
          exact List.mem_of_mem_drop (List.mem_of_mem_take hy)
        have sub2 : ∀ y ∈ cutV xs (some (pl + r2)) none, y ∈ xs := fun y hy => by
          unfold cutV at hy
          exact List.mem_of_mem_drop (List.mem_of_mem_take hy)
        exact AllIt.app (AllIt.app (fun y hy => hx14 y (sub1 y hy)) (.cons it14 .nil)) (fun y hy => hx14 y (sub2 y hy))
      · rw [List.length_append, List.length_append]
        show _ + 1 + _ ≤ Bd + 2
        have e1 : (cutV xs none (some pl)).length ≤ pl.toNat := by
          rw [cut_take xs pl0 (by omega), List.length_take]
          omega
        have e2 : (cutV xs (some (pl + r2)) none).length ≤ xs.length - pl.toNat := by
          rw [cut_drop xs (by omega), List.length_drop]
          omega
        omega
    · refine ⟨.ref t, rfl, .ref a, rfl, a, xs, rfl, .inr (k07.tup ha), fun p1 e1 => ?_⟩
      have s1 := same_upd (o := .lst xs) e1
      intro d hd
      have s2 := same_upd (o := .dK []) hd
      refine ⟨.str z, rfl, z, 0, c0, rfl, rfl, zsz, at_cp (j := 0) rfl hc0, by show 2 ≤ sizeLine; decide, fun p3 e3 => ?_⟩
      have s3 := same_upd (o := .tup [V.str "opt", .str (one c0)]) e3
      refine ⟨.str z, rfl, by show 2 ≤ sizeLine; decide, fun p4 e4 => ?_⟩
      have s4 := same_upd (o := .tup [V.str "star", .str z]) e4
      refine ⟨by show 9 ≤ sizeLine; decide, fun p5 e5 => ?_⟩
      have s5 := same_upd (o := .lst [V.ref p1, .non, .str "", .str "-", .int 1, .bl true, .ref d, .ref p3, .ref p4]) e5
      have s15 := (((s1.trans s2).trans s3).trans s4).trans s5
      have T15 := T7.same s15
      refine ⟨t, c, _, .ref p5, rfl, T15, by omega, .inl ⟨p5, _, rfl, SqL.of upd_same, by simp, by show 9 < 2 ^ 30; decide, fun H9 y k9 T9 hy => ?_⟩⟩
      refine k _ _ ((k07.trans (T7.kp s15)).trans k9) (T9.mono (by omega)) ?_
      have noT : ∀ v, NoT K (upd (upd (upd (upd (upd H7 p1 (.lst xs)) d (.dK [])) p3 (.tup [V.str "opt", .str (one c0)])) p4 (.tup [V.str "star", .str z])) p5 (.lst [V.ref p1, .non, .str "", .str "-", .int 1, .bl true, .ref d, .ref p3, .ref p4])) v → NoT K H9 v := fun v h => by
        obtain ⟨t, ty, kt⟩ := h
        exact ⟨t, tyX_kp k9 ty, kt⟩
      simp only [List.mem_cons, List.not_mem_nil, or_false] at hy
      rcases hy with rfl | rfl | rfl | rfl | rfl | rfl | rfl | rfl | rfl
      · exact .inl (noT _ (not_lst (((s2.trans s3).trans (s4.trans s5)) _ _ upd_same)))
      · exact .inl ⟨_, .base .non, kit_ty (by decide +kernel)⟩
      · exact .inl ⟨_, .base (.str _), kit_ty (by decide +kernel)⟩
      · exact .inl ⟨_, .base (.str _), kit_ty (by decide +kernel)⟩
      · exact .inl ⟨_, .base (.int _), kit_ty (by decide +kernel)⟩
      · exact .inl ⟨_, .base (.bl _), kit_ty (by decide +kernel)⟩
      · exact .inl (noT _ (not_dk ((s3.trans (s4.trans s5)) _ _ upd_same)))
      · exact .inr ⟨p3, _, rfl, k9.tup (same_tup (s4.trans s5) _ _ (SqT.of upd_same)), .cons (it_str _) (.cons (it_str _) .nil), by show 2 ≤ Bd + 2; omega⟩
      · exact .inr ⟨p4, _, rfl, k9.tup (same_tup s5 _ _ (SqT.of upd_same)), .cons (it_str _) (.cons (it_str _) .nil), by show 2 ≤ Bd + 2; omega⟩
end
end DW
/-! k05: the law -/
namespace DW
open PySem PySem.Spec PyProof.Rows L2 TL
set_option autoImplicit false
theorem AllIt.bs {K : PySem.W.Frag} {H : Hp} {z : Str} : ∀ xs : List V, AllIt K H z xs → ∃ bs : List Bool, bs.length = xs.length ∧ ObBs K H z xs bs ∧ ∀ (i : Nat) (v : V), xs[i]? = some v → ∃ b, bs[i]? = some b ∧ It K H z v b
  | [], _ => ⟨[], rfl, .nil, fun i v h => by simp at h⟩
  | x :: xs, h => by
    obtain ⟨bs, l, o, g⟩ := AllIt.bs xs fun y hy => h y (List.mem_cons_of_mem _ hy)
    obtain ⟨b, it⟩ := h x List.mem_cons_self
    refine ⟨b :: bs, by rw [List.length_cons, List.length_cons, l], .cons it.ob o, fun i v hv => ?_⟩
    match i, hv with
    | 0, hv =>
      have e := Option.some.inj hv
      subst e
      exact ⟨b, rfl, it⟩
    | i + 1, hv => exact g i v hv
theorem Thg.kp {K : PySem.W.Frag} {H H' : Hp} {t : Addr} {z : Str} {B : Nat} {v : V} (s : Kp t H H') (h : Thg K H z B v) : Thg K H' z B v := by
  rcases h with ⟨ty, h, kt⟩ | ⟨a, xs, e, q, al, l⟩
  · exact .inl ⟨ty, tyX_kp s h, kt⟩
  · exact .inr ⟨a, xs, e, s.tup q, al.kp s, l⟩
section
variable {P : Program} {w : World} {K : PySem.W.Frag} {mg : Str → Option Value} {base : Heap}
structure Ds (K : PySem.W.Frag) (mg : Str → Option Value) where
  p_is_ascending : Df K mg "is_ascending" sIsAscending ["letters"]
  p_is_word : Df K mg "is_word" sIsWord ["alphabet", "thing"]
  p_is_factor : Df K mg "is_factor" sIsFactor ["alphabet", "thing"]
  p_is_product : Df K mg "is_product" sIsProduct ["alphabet", "thing"]
  begin : Df K mg "_law_begin" sBegin ["_law_script"]
  draw : Df K mg "_law_draw" sDraw ["_law_tape", "_law_many"]
  pick : Df K mg "_law_pick" sPick ["_law_tape", "_law_items"]
  alphabet : Df K mg "_law_alphabet" sAlpha ["_law_tape"]
  factor : Df K mg "_law_factor" sFactor ["_law_tape", "_law_alphabet_here"]
  product : Df K mg "_law_product" sProduct ["_law_tape", "_law_alphabet_here", "_law_longest"]
  same : Df K mg "_law_same" sLSame ["_law_found", "_law_due"]
  bent : Df K mg "_law_bent" sLBent ["_law_tape", "_law_alphabet_here", "_law_product_here"]
  is_factor : Df K mg "_law_is_factor" sLIsFactor ["_law_alphabet_here", "_law_thing"]
  B : Bl mg
  b_all : mg "all" = none
  b_zip : mg "zip" = none
  b_isinstance : mg "isinstance" = none
  b_str : mg "str" = none
  b_tuple : mg "tuple" = none
  b_list : mg "list" = none
  b_repr : mg "repr" = none
def spLaw (K : PySem.W.Frag) : Sp := fun vs H Q _ => ∃ (a : Addr) (ns : List Int), vs = [.ref a] ∧ SqL K H a (ns.map V.int) ∧ ∀ H', Q (.bl true) H'
theorem scLaw : FnScope ["_law_script", "_law_tape", "_law_turn", "_law_alphabet_here", "_law_thing", "_law_k", "_law_due", "_law_factor_here"] ["_law_script"] (defScope sLaw) := ⟨rfl, rfl, rfl, by decide +kernel, rfl, by decide +kernel, by decide +kernel⟩
theorem ok_law (D : Df K mg "law" sLaw ["_law_script"]) (S : Ds K mg) : FnOk P w K mg base CX0 5 D.f D.fd ["_law_script"] (spLaw K) := by
  have Gb : FnOk P w K mg base CX0 1 S.begin.f S.begin.fd ["_law_script"] (spBegin K) := ok_begin S.begin
  have Gd : FnOk P w K mg base CX0 1 S.draw.f S.draw.fd ["_law_tape", "_law_many"] spDraw := ok_draw S.draw S.B.len
  have Ga : FnOk P w K mg base CX0 3 S.alphabet.f S.alphabet.fd ["_law_tape"] spAlpha := ok_alpha S.alphabet S.draw S.pick S.B
  have Gr : FnOk P w K mg base CX0 4 S.product.f S.product.fd ["_law_tape", "_law_alphabet_here", "_law_longest"] (spProduct K) := ok_product S.product S.factor S.draw S.pick S.B S.b_tuple
  have Ge : FnOk P w K mg base CX0 4 S.bent.f S.bent.fd ["_law_tape", "_law_alphabet_here", "_law_product_here"] (spBent K) := ok_bent S.bent S.factor S.draw S.pick S.B S.b_list
  have Gl : FnOk P w K mg base CX0 1 S.is_factor.f S.is_factor.fd ["_law_alphabet_here", "_law_thing"] (spLf K) := ok_lf S.is_factor S.B S.b_isinstance S.b_str S.b_tuple S.b_repr
  have Gs : FnOk P w K mg base CX0 1 S.same.f S.same.fd ["_law_found", "_law_due"] spSame := ok_same S.same
  have Gi : FnOk P w K mg base CX0 3 S.p_is_product.f S.p_is_product.fd ["alphabet", "thing"] (spIp K) := ok_ip ⟨S.p_is_product, S.p_is_factor, S.p_is_word, S.p_is_ascending, S.b_all, S.b_zip, S.b_isinstance, S.b_str, S.b_tuple, S.B.len⟩
  refine D.F.ok scLaw (fun vs H Q E h => ?_) (fun cdv A outer s H vs Q E hr h => ?_)
  · obtain ⟨a, ns, rfl, _⟩ := h
    rfl
  · obtain ⟨a, ns, rfl, hS, k⟩ := h
    have hr1 : Room 1 _ := hr.mono (by decide)
    have hr2 : Room 2 _ := hr.mono (by decide)
    have hr3 : Room 3 _ := hr.mono (by decide)
    have mt := S.b_tuple
    refine ⟨_, PSs.nox (pss_cons (ps_set (i := 1) scLaw.nd rfl (.inl rfl) (pe_call Gb hr1 (by rfl) S.begin.g S.begin.F.kp S.begin.b .nil pass0 (pa_cons (pv 0) pa_nil))) (pss_cons (ps_for PassesOwn.never rfl (pi_range1 rfl S.B.range (pa_cons pe_int pa_nil)) (pg_name (i := 2) scLaw.nd rfl (.inl rfl)) (pss_cons (ps_set (i := 3) scLaw.nd rfl (.inl rfl) (pe_call Ga hr3 (by rfl) S.alphabet.g S.alphabet.F.kp S.alphabet.b .nil pass0 (pa_cons (pv 1) pa_nil))) (pss_cons (ps_set (i := 4) scLaw.nd rfl (.inl rfl) (pe_call Gr hr (by rfl) S.product.g S.product.F.kp S.product.b .nil pass0 (pa_cons (pv 1) (pa_cons (pv 3) (pa_cons pe_int pa_nil))))) (pss_cons (ps_for PassesOwn.never rfl (pi_range1 rfl S.B.range (pa_cons (pe_call Gd hr1 (by rfl) S.draw.g S.draw.F.kp S.draw.b .nil pass0 (pa_cons (pv 1) (pa_cons pe_int pa_nil))) pa_nil)) (pg_name (i := 5) scLaw.nd rfl (.inl rfl)) (pss_one (ps_set (i := 4) scLaw.nd rfl (.inl rfl) (pe_ifExp (pt_val (pe_callB call_isi (by rfl) S.b_isinstance (by decide +kernel) (pa_cons (pv 4) (pa_cons (pe_bltn (v := V.ty "tuple") (by rfl) mt (by decide +kernel : bootBuiltins "tuple" = some (.type "tuple")) rfl) pa_nil)))) (pe_call Ge hr (by rfl) S.bent.g S.bent.F.kp S.bent.b .nil pass0 (pa_cons (pv 1) (pa_cons (pv 3) (pa_cons (pv 4) pa_nil)))) (pv 4))))) (pss_cons (ps_set (i := 6) scLaw.nd rfl (.inl rfl) (pe_callB call_isi (by rfl) S.b_isinstance (by decide +kernel) (pa_cons (pv 4) (pa_cons (pe_bltn (v := V.ty "tuple") (by rfl) mt (by decide +kernel : bootBuiltins "tuple" = some (.type "tuple")) rfl) pa_nil)))) (pss_cons (ps_for PassesOwn.never rfl (pi_tup (pe_ifExp (pt_val (pv 6)) (pv 4) (pe_tup pa_nil))) (pg_name (i := 7) scLaw.nd rfl (.inl rfl)) (pss_one (ps_set (i := 6) scLaw.nd rfl (.inl rfl) (pe_and (pv 6) (pe_one (pe_call Gl hr1 (by rfl) S.is_factor.g S.is_factor.F.kp S.is_factor.b .nil pass0 (pa_cons (pv 3) (pa_cons (pv 7) pa_nil)))))))) (pss_one (ps_if (pt_not (pt_val (pe_call Gs hr1 (by rfl) S.same.g S.same.F.kp S.same.b .nil pass0 (pa_cons (pe_call Gi hr3 (by rfl) S.p_is_product.g S.p_is_product.F.kp S.p_is_product.b .nil pass0 (pa_cons (pv 3) (pa_cons (pv 4) pa_nil))) (pa_cons (pv 6) pa_nil))))) (pss_one (ps_ret pe_bl)) pss_nil)))))))) (pss_one (ps_ret pe_bl)))), ?_⟩
    refine ⟨.ref a, rfl, a, ns, rfl, hS, fun H0 t c s0 ht hc T0 => ?_⟩
    refine ⟨5, rfl, by decide, by decide, for_it walk_range (fun i σ H' => ∃ y2 y3 y4 y5 y6 y7, σ = [some (.ref a), some (.ref t), y2, y3, y4, y5, y6, y7] ∧ Tape H' t c (10000 * i)) ⟨_, _, _, _, _, _, rfl, T0⟩ (fun _ _ _ _ _ => trivial) ?_ ?_⟩
    · rintro i x σ G G' hi ⟨y2, y3, y4, y5, y6, y7, rfl, T⟩ ⟨rfl, rfl⟩
      refine ⟨.ref t, rfl, t, c, 10000 * i, rfl, T, by omega, fun H1 z k1 T1 al => ?_⟩
      refine ⟨.ref t, rfl, .str z, rfl, t, c, _, z, 6, rfl, T1, by omega, al, by decide, by decide, fun H2 v1 p1 k2 T2 isp1 ok1 len1 => ?_⟩
      have th : Thg K H2 z 6 v1 := by
        obtain ⟨b, xs, rfl, hb, iF⟩ := isp1
        exact .inr ⟨b, xs, rfl, hb, iF.its al ok1, by rw [iF.len]; omega⟩
      refine ⟨.ref t, rfl, t, c, 3, _, rfl, T2, by omega, by decide, by decide, fun H3 r k3 T3 r0 r1 => ?_⟩
      refine ⟨r, rfl, by omega, by omega, for_it (n := r.toNat) walk_range (fun j σ H' => ∃ (v4 : V) (y5 : Option V), σ = [some (.ref a), some (.ref t), some (.int (0 + (i : Int))), some (.str z), some v4, y5, y6, y7] ∧ Thg K H' z (6 + 2 * j) v4 ∧ Tape H' t c (10000 * i + 1011 + 100 * j)) ⟨v1, _, rfl, th.kp k3, T3.mono (by omega)⟩ (fun _ _ _ _ _ => trivial) ?_ ?_⟩
      · rintro j x σ M M' hj ⟨v4, y5, rfl, th, TM⟩ ⟨rfl, rfl⟩
        rcases th with nt | ⟨b, xs, rfl, hb, hx, xl⟩
        · obtain ⟨ty, h, kt⟩ := id nt
          refine ⟨v4, rfl, _, _, _, _, false, rfl, .ty "tuple", h, kt, false, rfl, iteF ?_⟩
          exact ⟨v4, rfl, v4, _, rfl, .inl nt, TM.mono (by omega)⟩
        · refine ⟨.ref b, rfl, _, _, _, _, true, rfl, .ty "tuple", sqT_ty hb, tup_kit, true, rfl, iteT ?_⟩
          refine ⟨.ref t, rfl, .str z, rfl, .ref b, rfl, t, c, _, z, b, xs, 6 + 2 * j, rfl, TM, by omega, al, hb, hx, xl, by omega, fun M1 u kM1 TM1 th1 => ?_⟩
          exact ⟨u, _, rfl, by rw [show 6 + 2 * (j + 1) = 6 + 2 * j + 2 by omega]; exact th1, TM1.mono (by omega)⟩
      rintro σ N ⟨v4, y5, rfl, th, TN⟩
      rcases th with nt | ⟨b, xs, rfl, hb, hx, xl⟩
      · obtain ⟨ty, h, kt⟩ := id nt
        refine ⟨v4, rfl, _, _, _, _, false, rfl, .ty "tuple", h, kt, ?_⟩
        refine ⟨.bl false, rfl, false, rfl, iteF ⟨by show 0 ≤ sizeLine; decide, fun p hp => ?_⟩⟩
        have sp := same_upd (o := .tup []) hp
        refine ⟨p, rfl, ⟨[], SqT.of upd_same⟩, for_it (walk_tup (xs := [])) (fun j σ H' => ∃ y7, σ = [some (.ref a), some (.ref t), some (.int (0 + (i : Int))), some (.str z), some v4, y5, some (.bl false), y7] ∧ Same N H' ∧ SqT K H' p []) ⟨_, rfl, sp, SqT.of upd_same⟩ (fun _ _ _ _ ⟨_, _, _, q⟩ => q) ?_ ?_⟩
        · rintro j x σ M M' hj
          exact absurd hj (Nat.not_lt_zero _)
        rintro σ M ⟨y7, rfl, sm, _⟩
        refine ⟨.str z, rfl, v4, rfl, z, v4, false, rfl, .no ⟨ty, tyX_same sm h, kt⟩, fun M1 sM1 => ?_⟩
        refine ⟨.bl false, rfl, false, false, rfl, ⟨_, rfl, iteF ?_⟩⟩
        exact ⟨_, _, _, _, _, _, rfl, (TN.same (sm.trans sM1)).mono (by omega)⟩
      · obtain ⟨bs, bl, ob, get⟩ := AllIt.bs xs hx
        refine ⟨.ref b, rfl, _, _, _, _, true, rfl, .ty "tuple", sqT_ty hb, tup_kit, ?_⟩
        refine ⟨.bl true, rfl, true, rfl, iteT ⟨.ref b, rfl, b, rfl, ⟨xs, hb⟩, for_it (walk_tup (xs := xs)) (fun j σ H' => ∃ y7, σ = [some (.ref a), some (.ref t), some (.int (0 + (i : Int))), some (.str z), some (.ref b), y5, some (.bl ((bs.take j).all id)), y7] ∧ Same N H') ⟨_, rfl, Same.refl _⟩ (fun _ _ _ _ ⟨_, _, sm⟩ => same_tup sm _ _ hb) ?_ ?_⟩⟩
        · rintro j x σ M M' hj ⟨y7, rfl, sm⟩ ⟨rfl, hx⟩
          obtain ⟨bb, hbb, it⟩ := get j x hx
          have tk : (bs.take (j + 1)).all id = ((bs.take j).all id && bb) := by
            rw [List.take_add_one, hbb, List.all_append]
            simp
          refine ⟨.bl ((bs.take j).all id), rfl, _, rfl, ite2 (fun e => ?_) (fun e => ?_)⟩
          · refine ⟨.str z, rfl, x, rfl, z, x, bb, rfl, it.same sm, fun M1 sM1 => ?_⟩
            refine ⟨some x, ?_, sm.trans sM1⟩
            rw [tk, e, Bool.true_and]
            rfl
          · refine ⟨some x, ?_, sm⟩
            rw [tk, show (bs.take j).all id = false by simpa using e]
            rfl
        rintro σ M ⟨y7, rfl, sm⟩
        rw [← bl, List.take_length]
        refine ⟨.str z, rfl, .ref b, rfl, z, .ref b, bs.all id, rfl, ?_, fun M1 sM1 => ?_⟩
        · have obM : ∀ {vs : List V} {cs : List Bool}, ObBs K N z vs cs → ObBs K M z vs cs := by
            intro vs cs h
            induction h with
            | nil => exact .nil
            | cons h r ih => exact .cons (h.same sm) ih
          exact .tup (same_tup sm _ _ hb) (obM ob) (by omega)
        refine ⟨.bl (bs.all id), rfl, bs.all id, bs.all id, rfl, ?_⟩
        rw [decide_eq_true rfl]
        refine ⟨_, rfl, iteF ?_⟩
        exact ⟨_, _, _, _, _, _, rfl, (TN.same (sm.trans sM1)).mono (by omega)⟩
    · rintro σ G ⟨y2, y3, y4, y5, y6, y7, rfl, T⟩
      exact k _
end
end DW
set_option maxHeartbeats 0
namespace DW
open PySem PySem.Spec PyProof.Rows L2
def mkD (x : Str) (st : Stmt) : He.DefD := ⟨(x, none), x, x, defArgs st, defBody st, defScope st, [], []⟩
def fn : List He.DefD := [mkD "law" sLaw, mkD "is_ascending" sIsAscending, mkD "is_word" sIsWord, mkD "is_factor" sIsFactor, mkD "is_product" sIsProduct, mkD "_law_begin" sBegin, mkD "_law_draw" sDraw, mkD "_law_pick" sPick, mkD "_law_alphabet" sAlpha, mkD "_law_factor" sFactor, mkD "_law_product" sProduct, mkD "_law_same" sLSame, mkD "_law_bent" sLBent, mkD "_law_is_factor" sLIsFactor]
def fa : List He.Fa := [.glo "law", .glo "is_ascending", .glo "is_word", .glo "is_factor", .glo "is_product", .glo "_law_begin", .glo "_law_draw", .glo "_law_pick", .glo "_law_alphabet", .glo "_law_factor", .glo "_law_product", .glo "_law_same", .glo "_law_bent", .glo "_law_is_factor", .free "all", .free "zip", .free "isinstance", .free "str", .free "tuple", .free "len", .free "range", .free "sorted", .free "set", .free "list", .free "repr"]
abbrev R : PySem.W.OpenRow := PySem.W.OpenLaw.row PySem.Challenge.rw_downwords_k05_products_or_not
abbrev hk : PySem.W.Hook := He.hookD 4 fa fn
def ob (s : PySem.W.SharedT) : He.AlD := He.obsDG 4 fa fn (HandSHeadRun.getT s)
theorem ob_eq (s : PySem.W.SharedT) : ob s = hk.obs s.abs := He.obsDG_eq (HandSHeadRun.getT_eq s)
abbrev names : List Str := ["__name__", "is_ascending", "is_word", "is_factor", "is_product", "_law_begin", "_law_draw", "_law_pick", "_law_alphabet", "_law_factor", "_law_product", "_law_same", "_law_bent", "_law_is_factor"]
theorem run (w : World) : HandSHeadRun.RunEq R (PySem.W.view R.prog [16]) hk ob 4000 names w := by
  intro os
  kernel_rfl
theorem df {K : PySem.W.Frag} {h : Heap} {mg : Str → Option Value} {x : Str} {st : Stmt} {ps : List Str} (X : K.In h) (G : h.Ns mainGlobals mg) (hf : ∃ fd, FunD K x x (defArgs st) (defBody st) (defScope st) [] [] (He.fAd K (x, none)) fd) (hg : (He.Fa.glo x).ok K = true)
    (b : ∀ (kV doc pm : Value) (an : Option Addr) (cdv ct : Value) (us : List Value), us.length = ps.length → bindArgs (PySem.W.fnOf x x (defArgs st) (defBody st) (defScope st) .none kV doc pm an cdv ct) ⟨us, []⟩ = pure (ps.zip us)) :
    ∃ D : Df K mg x st ps, D.f = He.fAd K (x, none) := by
  obtain ⟨fd, F⟩ := hf
  exact ⟨⟨He.fAd K (x, none), fd, F, He.glo_ok X G hg, F.bindsN b⟩, rfl⟩
theorem facts {P : Program} {w : World} {K : PySem.W.Frag} {h : Heap} {mg : Str → Option Value} {f : Addr} (X : K.In h) (G : h.Ns mainGlobals mg) (hfa : mg ("law" : Str) = some (.ref f)) (c : He.SaysD fa fn K) :
    ∃ fd : FuncData, (∀ (s : Shared) (v : Value), BindsTo s fd ⟨[v], []⟩ [("_law_script", v)]) ∧ ∀ base : Heap, K.In base → base.Ns mainGlobals mg → FnOk P w K mg base CX0 5 f fd ["_law_script"] (spLaw K) := by
  have e := hfa.symm.trans (He.glo_ok X G (c.fact 0 (f := .glo "law") rfl))
  cases e
  obtain ⟨D0, e0⟩ := df (st := sLaw) (ps := ["_law_script"]) X G (c.def_ 0 (d := mkD "law" sLaw) rfl) (c.fact 0 (f := .glo "law") rfl) fun _ _ _ _ _ _ us hl => match us, hl with | [_], _ => rfl
  obtain ⟨D1, e1⟩ := df (st := sIsAscending) (ps := ["letters"]) X G (c.def_ 1 (d := mkD "is_ascending" sIsAscending) rfl) (c.fact 1 (f := .glo "is_ascending") rfl) fun _ _ _ _ _ _ us hl => match us, hl with | [_], _ => rfl
  obtain ⟨D2, e2⟩ := df (st := sIsWord) (ps := ["alphabet", "thing"]) X G (c.def_ 2 (d := mkD "is_word" sIsWord) rfl) (c.fact 2 (f := .glo "is_word") rfl) fun _ _ _ _ _ _ us hl => match us, hl with | [_, _], _ => rfl
  obtain ⟨D3, e3⟩ := df (st := sIsFactor) (ps := ["alphabet", "thing"]) X G (c.def_ 3 (d := mkD "is_factor" sIsFactor) rfl) (c.fact 3 (f := .glo "is_factor") rfl) fun _ _ _ _ _ _ us hl => match us, hl with | [_, _], _ => rfl
  obtain ⟨D4, e4⟩ := df (st := sIsProduct) (ps := ["alphabet", "thing"]) X G (c.def_ 4 (d := mkD "is_product" sIsProduct) rfl) (c.fact 4 (f := .glo "is_product") rfl) fun _ _ _ _ _ _ us hl => match us, hl with | [_, _], _ => rfl
  obtain ⟨D5, e5⟩ := df (st := sBegin) (ps := ["_law_script"]) X G (c.def_ 5 (d := mkD "_law_begin" sBegin) rfl) (c.fact 5 (f := .glo "_law_begin") rfl) fun _ _ _ _ _ _ us hl => match us, hl with | [_], _ => rfl
  obtain ⟨D6, e6⟩ := df (st := sDraw) (ps := ["_law_tape", "_law_many"]) X G (c.def_ 6 (d := mkD "_law_draw" sDraw) rfl) (c.fact 6 (f := .glo "_law_draw") rfl) fun _ _ _ _ _ _ us hl => match us, hl with | [_, _], _ => rfl
  obtain ⟨D7, e7⟩ := df (st := sPick) (ps := ["_law_tape", "_law_items"]) X G (c.def_ 7 (d := mkD "_law_pick" sPick) rfl) (c.fact 7 (f := .glo "_law_pick") rfl) fun _ _ _ _ _ _ us hl => match us, hl with | [_, _], _ => rfl
  obtain ⟨D8, e8⟩ := df (st := sAlpha) (ps := ["_law_tape"]) X G (c.def_ 8 (d := mkD "_law_alphabet" sAlpha) rfl) (c.fact 8 (f := .glo "_law_alphabet") rfl) fun _ _ _ _ _ _ us hl => match us, hl with | [_], _ => rfl
  obtain ⟨D9, e9⟩ := df (st := sFactor) (ps := ["_law_tape", "_law_alphabet_here"]) X G (c.def_ 9 (d := mkD "_law_factor" sFactor) rfl) (c.fact 9 (f := .glo "_law_factor") rfl) fun _ _ _ _ _ _ us hl => match us, hl with | [_, _], _ => rfl
  obtain ⟨D10, e10⟩ := df (st := sProduct) (ps := ["_law_tape", "_law_alphabet_here", "_law_longest"]) X G (c.def_ 10 (d := mkD "_law_product" sProduct) rfl) (c.fact 10 (f := .glo "_law_product") rfl) fun _ _ _ _ _ _ us hl => match us, hl with | [_, _, _], _ => rfl
  obtain ⟨D11, e11⟩ := df (st := sLSame) (ps := ["_law_found", "_law_due"]) X G (c.def_ 11 (d := mkD "_law_same" sLSame) rfl) (c.fact 11 (f := .glo "_law_same") rfl) fun _ _ _ _ _ _ us hl => match us, hl with | [_, _], _ => rfl
  obtain ⟨D12, e12⟩ := df (st := sLBent) (ps := ["_law_tape", "_law_alphabet_here", "_law_product_here"]) X G (c.def_ 12 (d := mkD "_law_bent" sLBent) rfl) (c.fact 12 (f := .glo "_law_bent") rfl) fun _ _ _ _ _ _ us hl => match us, hl with | [_, _, _], _ => rfl
  obtain ⟨D13, e13⟩ := df (st := sLIsFactor) (ps := ["_law_alphabet_here", "_law_thing"]) X G (c.def_ 13 (d := mkD "_law_is_factor" sLIsFactor) rfl) (c.fact 13 (f := .glo "_law_is_factor") rfl) fun _ _ _ _ _ _ us hl => match us, hl with | [_, _], _ => rfl
  have b := FunD.bindsA (ps := ["_law_script"]) D0.F fun _ _ _ _ _ _ us hl => match us, hl with | [_], _ => rfl
  refine ⟨D0.fd, fun s v => b s [v] rfl, fun base _ _ => ?_⟩
  have q := ok_law (P := P) (w := w) (base := base) D0 ⟨D1, D2, D3, D4, D5, D6, D7, D8, D9, D10, D11, D12, D13, ⟨He.free_ok X G (c.fact 19 (f := .free "len") rfl), He.free_ok X G (c.fact 20 (f := .free "range") rfl), He.free_ok X G (c.fact 21 (f := .free "sorted") rfl), He.free_ok X G (c.fact 22 (f := .free "set") rfl)⟩, He.free_ok X G (c.fact 14 (f := .free "all") rfl), He.free_ok X G (c.fact 15 (f := .free "zip") rfl), He.free_ok X G (c.fact 16 (f := .free "isinstance") rfl), He.free_ok X G (c.fact 17 (f := .free "str") rfl), He.free_ok X G (c.fact 18 (f := .free "tuple") rfl), He.free_ok X G (c.fact 23 (f := .free "list") rfl), He.free_ok X G (c.fact 24 (f := .free "repr") rfl)⟩
  rw [e0] at q
  exact q
end DW
open PySem PySem.W PySem.Calls PyProof.Rows
theorem PySem.Challenge.cw_downwords_k05_products_or_not_holds : PySem.Challenge.rw_downwords_k05_products_or_not.Holds := by
  w_on; o_law
  refine HandSHeadRun.head_any (r := OpenLaw.row PySem.Challenge.rw_downwords_k05_products_or_not) (q := view (OpenLaw.row PySem.Challenge.rw_downwords_k05_products_or_not).prog [16]) (H := DW.hk) (ob := DW.ob) (M := 4000) (loose := DW.names) (d := HandSHeadRun.topDef (OpenLaw.row PySem.Challenge.rw_downwords_k05_products_or_not).prog 16) (kwd := []) DW.ob_eq
    (by kernel_rfl) (fun s => by kernel_rfl) DW.run (by kernel_rfl) (by kernel_rfl) (by kernel_rfl) (by rfl) (by first | assumption | decide +kernel) (by decide +kernel) ⟨rfl, rfl, rfl, rfl, rfl, by decide +kernel⟩ ?hw ?hc
  case hw => w_witness2
  case hc =>
    refine L2.walk_ofE (l := PySem.Challenge.rw_downwords_k05_products_or_not) (n := 63) (k := 5) (x := "_law_script") (CX := L2.CX0) rfl (by decide) (by kernel_rfl) ⟨rfl, by decide, by decide⟩ ?F (fun _ _ _ _ z => z)
    intro w mg fa h Y G hmg0
    obtain ⟨K, KX, c⟩ := Y
    have hmg : mg ("law" : PySem.Str) = some (.ref fa) := by
      have e : (HandSHeadRun.topDef (OpenLaw.row PySem.Challenge.rw_downwords_k05_products_or_not).prog 16).name = ("law" : PySem.Str) := by kernel_rfl
      rw [← e]
      exact hmg0
    obtain ⟨fd, hb, hF⟩ := DW.facts (P := (PySem.Challenge.rw_downwords_k05_products_or_not).prog) (w := w) KX G hmg c
    exact ⟨K, fd, DW.spLaw K, KX, hb, fun H a ns hl _ hS => ⟨a, ns, rfl, hS, fun _ => rfl⟩, hF⟩
