import PyProof.Rows.All
import Wide.All
import OpenK.AllK
import Wide.FinOn
import HandS.List
import HandS.SetTxt0
import HandS.SetFor
import HandS.Strs
import HandS.Iter
import HandS.Walk
import KE.GoesMore
import KE.GoesZip
import HandS.Text
import PyProof.ListStr
import KE.KRevSl
import HandS.ForMost
import HandS.Flow
import HandS.Small
import HandS.Codes
import HandS.Defaults
import HandS.WordsExc
import HandS.RaiseMore
import HandS.Conv
import HandS.Style
import HandS.NoneIn
import HandS.TupAny
import HandS.IsInst
import KE.KStateDown
import Lean
import HandS.More
import HandS.Head0
import HandS.Head1
import HandS.Head2
import HandS.HeadEnd
import HandS.HeadHook1
import HandS.HeadHook2
import PySem.Challenge.RW_downwords_k09_whole_reduced_products
set_option Elab.async false
set_option linter.all false
set_option maxRecDepth 100000
set_option maxHeartbeats 2000000
/-! Sets of texts: set(list of texts), set(text), sorted(set). -/
namespace TX
open PySem PySem.Spec PyProof.Rows L2 PySem.Froz

/-! ### lists -/
theorem perm_of_sub {α : Type} [DecidableEq α] : ∀ (l ks : List α), l.Nodup → (∀ x ∈ l, x ∈ ks) → ks.length ≤ l.length → ks.Perm l
  | [], ks, _, _, hl => by
    have e : ks = [] := List.length_eq_zero_iff.mp (Nat.le_zero.mp hl)
    rw [e]
  | x :: l, ks, nd, sub, hl => by
    obtain ⟨hx, nd'⟩ := List.nodup_cons.mp nd
    have hk : x ∈ ks := sub x List.mem_cons_self
    have p1 : ks.Perm (x :: ks.erase x) := List.perm_cons_erase hk
    have l1 : (ks.erase x).length = ks.length - 1 := List.length_erase_of_mem hk
    have sub' : ∀ y ∈ l, y ∈ ks.erase x := fun y hy => by
      have ne : y ≠ x := fun e => hx (e ▸ hy)
      exact (List.mem_erase_of_ne ne).mpr (sub y (List.mem_cons_of_mem _ hy))
    have p2 := perm_of_sub l (ks.erase x) nd' sub' (by rw [l1]; rw [List.length_cons] at hl; omega)
    exact p1.trans (p2.cons x)

/-! ### the set's state -/
structure Ok (P : Program) (w : World) (D : SD) (l : List Str) : Prop where
  tx : TxOk P w D l
  up : Ris D.2.2.place.toList
  led : w.params.followText "set-order" = true ∨ D.2.2.led = true
  nd : l.Nodup
def At (P : Program) (w : World) (h : Heap) (a : Addr) (l : List Str) : Prop := ∃ D : SD, h.get? a = some (sObj "set" D) ∧ Ok P w D l

section
variable {P : Program} {w : World} {A : Around} {E : Value → Shared → Prop} {s : Shared}
theorem At.move {h h' : Heap} {a : Addr} {l : List Str} (x : At P w h a l) (k : ∀ o, h.get? a = some o → h'.get? a = some o) : At P w h' a l := by
  obtain ⟨D, hD, o⟩ := x
  exact ⟨D, k _ hD, o⟩
theorem tail_up {ep : Nat} {es : Array (Int × Value)} {t : SetTable} {b : Bool} (r : Ris t.place.toList) : Ris (tailTx ep es t b).2.2.place.toList := by
  unfold tailTx
  by_cases c : (!b && t.tooFull) = true
  · rw [if_pos c]
    exact relayAll_ris _ _ _
  · rw [if_neg c]
    exact r
theorem tail_led {ep : Nat} {es : Array (Int × Value)} {t : SetTable} {b : Bool} : (tailTx ep es t b).2.2.led = t.led := by
  unfold tailTx
  by_cases c : (!b && t.tooFull) = true
  · rw [if_pos c]
    exact relayAll_led _ _ _
  · rw [if_neg c]
def dull (t : SetTable) : SetTable := if t.plain = true then { t with plain := false } else t
theorem dull_place (t : SetTable) : (dull t).place = t.place := by
  unfold dull
  by_cases c : t.plain = true
  · rw [if_pos c]
  · rw [if_neg c]
theorem dull_led (t : SetTable) : (dull t).led = t.led := by
  unfold dull
  by_cases c : t.plain = true
  · rw [if_pos c]
  · rw [if_neg c]
theorem Ok.add {D : SD} {l : List Str} {k : Str} (u : Tok) (o : Ok P w D l) (hk : k ∉ l) : Ok P w (addTx (hashStr w k) (.str k u) D) (k :: l) := by
  obtain ⟨es, ep, t⟩ := D
  have r1 : Ris (layNew t es (hashStr w k) (.str k u)).2.1.place.toList := layNew_ris t es _ _ o.up
  have l1 : (layNew t es (hashStr w k) (.str k u)).2.1.led = t.led := layNew_led t es _ _
  have e : addTx (hashStr w k) (.str k u) (es, ep, t) = tailTx ep (layNew t es (hashStr w k) (.str k u)).1 (dull (layNew t es (hashStr w k) (.str k u)).2.1) (layNew t es (hashStr w k) (.str k u)).2.2.1 := rfl
  refine ⟨add_ok u o.tx, ?_, ?_, List.nodup_cons.mpr ⟨hk, o.nd⟩⟩
  · rw [e]
    exact tail_up (by rw [dull_place]; exact r1)
  · refine o.led.imp id fun z => ?_
    rw [e, tail_led, dull_led, l1]
    exact z
theorem add_old {a : Addr} {T : String} {D : SD} {l : List Str} {k : Str} {u : Tok} {Q : Bool → Shared → Prop} (ho : s.heap.get? a = some (sObj T D)) (o : TxOk P w D l) (hk : k ∈ l) (hb : l.length < scanBound) (h : Q false s) :
    wpAny (model P w) A (setAddHashed a (.str k u) (hashStr w k)) Q E s := by
  obtain ⟨es, ep, t⟩ := D
  have dd : (sObj T (es, ep, t)).data = .set es ep t := rfl
  have ft : t.fits es.size = true := o.fit
  have el : ElemsOf (strKind P w) es.toList := o.el
  have z : es.size = l.length := o.sz
  have b0 : es.size < scanBound := by omega
  have ky : (strKind P w).is k (.str k u) = true := is_str k u
  obtain ⟨e0, he0, q0⟩ := (o.mem k).mp hk
  unfold setAddHashed setAddHashedIn
  refine wpAny_holding (wpAny_bind (wpAny_setState_of ho dd ft ?_))
  dsimp only
  rw [byScan_of rfl b0 el]
  simp only [↓reduceIte]
  unfold setAddByScan
  refine wpAny_bind (wpAny_bind (wpAny_rule (wpAny_bind (wpAny_setScan_of (knd := strKind P w) (k := k) ky ho dd ft el ?_))))
  cases fi : List.findIdx? (fun e => (strKind P w).is k e.2) es.toList with
  | some j =>
    dsimp only
    exact wpAny_pure (wpAny_pure h)
  | none =>
    have c := List.findIdx?_eq_none_iff.mp fi e0 he0
    rw [q0] at c
    cases c

/-! ### the loop that fills it -/
theorem fill {I : Addr} {fp wr : List Addr} {G : Array GenState → Array GenState → Prop} {n : Nat} {Pv : Nat → Value → Prop} {St : Nat → Shared → Prop} {R : Result → Shared → Prop}
    (W : WalksS P w A.in1 I fp wr G n Pv St) (a : Addr) (ha : a ∉ fp) (xs : List Str) (hn : n = xs.length) (hb : xs.length + 1 < scanBound) (hv : ∀ i v, Pv i v → ∃ k t, xs[i]? = some k ∧ v = .str k t) :
    ∀ (m i : Nat) (s : Shared), n - i = m → i ≤ n → St i s → (∃ l, At P w s.heap a l ∧ l.length ≤ i ∧ ∀ k, k ∈ l ↔ k ∈ xs.take i) →
      (∀ s' l, Moved (a :: wr) G s s' → At P w s'.heap a l → (∀ k, k ∈ l ↔ k ∈ xs) → l.length ≤ n → R (.ok (.ret .none)) s') →
      codeAny (model P w) A (.builtin "set.update.loop" ⟨[.ref a, .ref I], []⟩) R s := by
  have aw : a ∉ wr := fun q => ha (W.sub _ q)
  have ww : ∀ b ∈ wr, b ∈ a :: wr := fun b q => List.mem_cons_of_mem _ q
  intro m
  induction m with
  | zero =>
    intro i s em hi st ⟨l, hA, hl, mem⟩ hR
    obtain rfl : i = n := by omega
    refine codeAny_builtin F.entry_set_update_loop ?_
    rw [Around.under_plainId F.plain_set_update_loop _]
    show wpAny _ A.in1 (pyNext (.ref I) >>= _) _ _ s
    refine wpAny_bind (W.done s _ _ st fun s' mv => ?_)
    show wpAny _ A.in1 (ret Value.none) _ _ s'
    have et : xs.take i = xs := List.take_of_length_le (by omega)
    rw [et] at mem
    exact wpAny_pure (hR s' l (mv.mono ww) (hA.move fun o e => mv.heap a o aw e) mem hl)
  | succ m ih =>
    intro i s em hi st ⟨l, hA, hl, mem⟩ hR
    have lt : i < n := by omega
    refine codeAny_builtin F.entry_set_update_loop ?_
    rw [Around.under_plainId F.plain_set_update_loop _]
    show wpAny _ A.in1 (pyNext (.ref I) >>= _) _ _ s
    refine wpAny_bind (W.item i s _ _ lt st fun v s1 hP st1 mv => ?_)
    obtain ⟨k, t, hk, rfl⟩ := hv i v hP
    obtain ⟨D, hD, oD⟩ := hA.move (h' := s1.heap) fun o e => mv.heap a o aw e
    show wpAny _ A.in1 (holding [Value.str k t] (setAdd a (.str k t)) >>= _) _ _ s1
    refine wpAny_bind (wpAny_holding ?_)
    unfold setAdd
    refine wpAny_holding (wpAny_bind ((strKind P w).pyHash (k := k) (is_str k t) ?_))
    have tk : xs.take (i + 1) = xs.take i ++ [k] := by rw [List.take_add_one, hk] <;> rfl
    by_cases kl : k ∈ l
    · refine add_old (s := { s1 with toks := s1.toks + 1 }) hD oD.tx kl (by omega) ?_
      refine wpAny_pure ⟨plainId_quiet F.plain_set_update_loop _, ih (i + 1) _ (by omega) lt (W.frame _ s1 _ _ st1 (Nat.le_succ _) fun b _ o e => e) ⟨l, ⟨D, hD, oD⟩, by omega, fun j => ?_⟩ fun s2 l2 mv2 hA2 mem2 hl2 => ?_⟩
      · rw [tk, List.mem_append, List.mem_singleton, ← mem j]
        exact ⟨.inl, fun q => q.elim id fun e => e ▸ kl⟩
      · exact hR s2 l2 (Moved.trans W.gtrans ((mv.mono ww).then_heap (Nat.le_succ _) fun b o _ e => e) mv2) hA2 mem2 hl2
    · refine add_x (s := { s1 with toks := s1.toks + 1 }) hD oD.tx kl (by omega) ?_
      have hg : (s1.heap.update a (fun _ => sObj "set" (addTx (hashStr w k) (.str k t) D))).get? a = some (sObj "set" (addTx (hashStr w k) (.str k t) D)) := get_upd _ hD rfl
      have ot : ∀ b o, b ≠ a → s1.heap.get? b = some o → (s1.heap.update a (fun _ => sObj "set" (addTx (hashStr w k) (.str k t) D))).get? b = some o :=
        fun b o ne e => (Heap.get?_update_other _ _ (Ne.symm ne)).trans e
      refine wpAny_pure ⟨plainId_quiet F.plain_set_update_loop _, ih (i + 1) _ (by omega) lt (W.frame _ s1 _ _ st1 (Nat.le_succ _) fun b q o e => ?_) ⟨k :: l, ⟨_, hg, oD.add t kl⟩, by rw [List.length_cons]; omega, fun j => ?_⟩ fun s2 l2 mv2 hA2 mem2 hl2 => ?_⟩
      · exact ot b o (fun z => ha (z ▸ q)) e
      · rw [tk, List.mem_append, List.mem_singleton, ← mem j, List.mem_cons]
        exact Or.comm
      · refine hR s2 l2 (Moved.trans W.gtrans ((mv.mono ww).then_heap (Nat.le_succ _) fun b o q e => ?_) mv2) hA2 mem2 hl2
        exact ot b o (fun z => q (z ▸ List.mem_cons_self)) e
end

/-! ### set(v) -/
abbrev fresh (w : World) : Obj := { cls := .type "set", dict := none, data := .set #[] 0 (.fresh 0 0 (!w.params.followText "set-order")) }
theorem fresh_ok {P : Program} {w : World} : Ok P w (#[], 0, .fresh 0 0 (!w.params.followText "set-order")) [] where
  tx := TxOk.nil (by rfl)
  up := List.Pairwise.nil
  led := by
    show _ ∨ (!w.params.followText "set-order") = true
    cases w.params.followText "set-order"
    · exact .inr rfl
    · exact .inl rfl
  nd := List.nodup_nil
theorem at_fresh {P : Program} {w : World} {h : Heap} {a : Addr} (e : h.get? a = some (fresh w)) : At P w h a [] := ⟨(#[], 0, .fresh 0 0 (!w.params.followText "set-order")), e, fresh_ok⟩

section
variable {P : Program} {w : World} {A : Around} {E : Value → Shared → Prop} {s : Shared}
/-- what set(v) leaves: a new object, all else as it was -/
def Left (P : Program) (w : World) (s : Shared) (xs : List Str) (s' : Shared) : Prop :=
  ∃ h' tk l, s' = { s with heap := h', toks := tk } ∧ At P w h' s.heap.objs.size l ∧ (∀ k, k ∈ l ↔ k ∈ xs) ∧ l.length ≤ xs.length ∧ ∀ b o, s.heap.get? b = some o → h'.get? b = some o
set_option maxHeartbeats 4000000 in
theorem call_set_of {v : Value} {xs : List Str} {Q : Value → Shared → Prop}
    (hI : ∀ A' : Around, A'.handled = A.handled → wpAny (model P w) A' (Builtin.«set.__init__» ⟨[.ref s.heap.objs.size, v], []⟩) (fun f s2 => f = .done (.ret .none) ∧ Left P w s xs s2) E { s with heap := s.heap.push (fresh w) })
    (h : ∀ s', Left P w s xs s' → Q (.ref s.heap.objs.size) s') :
    wpAny (model P w) A (call (.type "set") [v]) Q E s := by
  obtain ⟨c, tl, hmro⟩ := F.called_set.mro
  have hmade := F.called_set.made
  have hsub := F.called_set.sub
  refine wpAny_call (codeAny_of_tree ?_)
  show wpAny _ _ (callAny (.type "set") _) _ _ _
  refine wpAny_pure ⟨Code.quiet_builtin _ (by decide +kernel), codeAny_builtin F.entry_type_call ?_⟩
  rw [Around.under_plain (weight_type_call_type "set" [v] []) rfl]
  have h1 := F.called_set.notType
  have h2 := F.called_set.canCreate
  have hct := F.typeCall_set_1 v
  repeat (any_goals (first | assumption | wp_step))
  refine codeAny_mono (code_set_led1 v (E := E) (Q₁ := fun obj s₁ => obj = .ref s.heap.objs.size ∧ s₁ = { s with heap := s.heap.push (fresh w) }) ⟨rfl, rfl⟩) fun r s₁ hr => ?_
  cases r with
  | error e => exact hr
  | ok fl =>
    cases fl with
    | ret obj =>
      obtain ⟨rfl, rfl⟩ := hr
      have hS : (s.heap.push (fresh w)).get? s.heap.objs.size = some (fresh w) := Heap.get?_push_size _ rfl
      have hT : Shared.TypeIs { s with heap := s.heap.push (fresh w) } (.ref s.heap.objs.size) "set" := ⟨_, hS, rfl⟩
      have hli := F.called_set.init.lookup
      have hbi := F.called_set.init.bind (.ref s.heap.objs.size)
      repeat (any_goals (first | assumption | wp_step))
      refine codeAny_mono (codeAny_call_builtin (R := wants (fun r s₂ => r = .none ∧ Left P w s xs s₂) E) F.called_set.init.plain F.entry_set_init (check_set_init_1 hT ?_)) fun r₂ s₂ hr₂ => ?_
      · refine wpAny_mono (hI A.in1.in1 (by simp)) (fun f s2 q => ?_) fun e s2 q => q
        obtain ⟨rfl, q⟩ := q
        exact ⟨rfl, q⟩
      · cases r₂ with
        | error e => exact hr₂
        | ok fl₂ =>
          cases fl₂ with
          | ret r =>
            obtain ⟨rfl, hL⟩ := hr₂
            repeat (any_goals (first | assumption | wp_step))
            exact h _ hL
          | _ => exact hr₂.elim
    | _ => exact hr.elim
theorem left_of {a : Addr} {wr : List Addr} {xs l : List Str} {s s1 s' : Shared} (ea : a = s.heap.objs.size) (hw : ∀ b ∈ wr, s.heap.objs.size ≤ b) (k1 : ∀ b o, s.heap.get? b = some o → s1.heap.get? b = some o)
    (eg : s1.gens = s.gens) (ed : s1.drawn = s.drawn) (eo : s1.os = s.os) (mv : Moved (a :: wr) (fun x y => y = x) s1 s') (hA : At P w s'.heap a l) (mem : ∀ k, k ∈ l ↔ k ∈ xs) (hl : l.length ≤ xs.length) : Left P w s xs s' := by
  obtain ⟨h', g', d', tk', os'⟩ := s'
  have e1 : g' = s.gens := mv.gens.trans eg
  have e2 : d' = s.drawn := mv.drawn.trans ed
  have e3 : os' = s.os := mv.os.trans eo
  subst e1 e2 e3 ea
  refine ⟨h', tk', l, rfl, hA, mem, hl, fun b o e => ?_⟩
  have lt : b < s.heap.objs.size := Heap.lt_size e
  refine mv.heap b o (fun z => ?_) (k1 b o e)
  rcases List.mem_cons.mp z with z | z
  · exact absurd z (Nat.ne_of_lt lt)
  · exact absurd (hw b z) (Nat.not_le_of_lt lt)
set_option maxHeartbeats 4000000 in
theorem init_list {l : Addr} {items : Array Value} {xs : List Str} (hh : A.handled = none) (hl : s.heap.IsList l items) (hi : StrsAre items.toList xs) (hb : xs.length + 1 < scanBound) :
    wpAny (model P w) A (Builtin.«set.__init__» ⟨[.ref s.heap.objs.size, .ref l], []⟩) (fun f s2 => f = .done (.ret .none) ∧ Left P w s xs s2) E { s with heap := s.heap.push (fresh w) } := by
  have hsz : xs.length = items.size := by rw [← StrsAre.len_eq hi, Array.length_toList]
  have hv : ∀ (i : Nat) (v : Value), items[i]? = some v → ∃ k t, xs[i]? = some k ∧ v = .str k t := fun i v q => by
    have hi' : i < xs.length := by rw [hsz]; exact (Array.getElem?_eq_some_iff.mp q).1
    obtain ⟨t, e⟩ := SS.strs_at hi i v (by rw [Array.getElem?_toList]; exact q)
    refine ⟨xs[i], t, List.getElem?_eq_getElem hi', ?_⟩
    rw [e, List.getD_eq_getElem?_getD, List.getElem?_eq_getElem hi'] <;> rfl
  have hS : (s.heap.push (fresh w)).get? s.heap.objs.size = some (fresh w) := Heap.get?_push_size _ rfl
  have hT : Shared.TypeIs { s with heap := s.heap.push (fresh w) } (.ref s.heap.objs.size) "set" := ⟨_, hS, rfl⟩
  obtain ⟨ol, hol, hcl, nl, hdl⟩ := id hl
  obtain ⟨ocls, odict, odata, oslots⟩ := ol
  simp only at hcl hdl
  subst hcl; subst hdl
  have hol1 : (s.heap.push (fresh w)).get? l = some { cls := .type "list", dict := odict, data := .seq items nl, slots := oslots } := Heap.get?_push_of_some _ hol
  have f1 := F.sub_list_set
  have f2 := F.sub_list_frozenset
  have f3 : (Value.type "list" == Value.type "dict") = false := by decide
  have hl1 : (s.heap.push (fresh w)).IsList l items := ⟨_, hol1, rfl, nl, rfl⟩
  have lS : l < s.heap.objs.size := Heap.lt_size hol
  have nI : l ≠ (s.heap.push (fresh w)).objs.size := by
    rw [Heap.size_push]
    exact Nat.ne_of_lt (Nat.lt_succ_of_lt lS)
  have nS : s.heap.objs.size ∉ [(s.heap.push (fresh w)).objs.size, l] := by
    rw [Heap.size_push]
    intro q
    rcases List.mem_cons.mp q with q | q
    · exact absurd q (Nat.ne_of_lt (Nat.lt_succ_self _))
    · exact absurd (List.mem_singleton.mp q) (Nat.ne_of_gt lS)
  have z1 : (s.heap.push (fresh w)).objs.size = s.heap.objs.size + 1 := Heap.size_push ..
  unfold Builtin.«set.__init__» noKeywords Builtin.Frozenset.updateFrom
  generalize ePI : pyIter = PI
  wp_walk
  subst ePI
  refine wpAny_pyIter_list hl1 ?_
  refine wpAny_bind (wpAny_runValue ?_)
  refine fill ((Walks.list (by simp [hh]) _ l nI items).toS) s.heap.objs.size nS xs hsz.symm hb hv (items.size - 0) 0 _ rfl (Nat.zero_le _)
    ⟨⟨_, Heap.get?_push_size _ rfl, rfl, rfl⟩, hl1.push _⟩ ⟨[], at_fresh (Heap.get?_push_of_some _ hS), Nat.le_refl _, fun k => by simp⟩ fun s' m mv hA mem hm => ?_
  show wpAny _ _ _ _ _ _
  refine wpAny_pure ?_
  show wpAny _ _ (ret Value.none) _ _ _
  refine wpAny_pure ⟨rfl, left_of (wr := [_]) rfl ?_ ?k1 ?e1 ?e2 ?e3 mv hA mem (by omega)⟩
  case k1 => exact fun b o e => Heap.get?_push_of_some _ (Heap.get?_push_of_some _ e)
  case e1 => rfl
  case e2 => rfl
  case e3 => rfl
  intro b q
  rw [List.mem_singleton.mp q]
  show _ ≤ (s.heap.push (fresh w)).objs.size
  rw [z1]
  exact Nat.le_succ _
set_option maxHeartbeats 4000000 in
theorem init_text {x : Str} {t : Tok} (hh : A.handled = none) (hb : x.length + 1 < scanBound) :
    wpAny (model P w) A (Builtin.«set.__init__» ⟨[.ref s.heap.objs.size, .str x t], []⟩) (fun f s2 => f = .done (.ret .none) ∧ Left P w s (x.cps.toList.map fun c => (⟨#[c]⟩ : Str)) s2) E { s with heap := s.heap.push (fresh w) } := by
  have hsz : (x.cps.toList.map fun c => (⟨#[c]⟩ : Str)).length = x.cps.size := by rw [List.length_map, Array.length_toList]
  have hx : x.length = x.cps.size := rfl
  have hv : ∀ (i : Nat) (v : Value), SignAt x i v → ∃ k t, (x.cps.toList.map fun c => (⟨#[c]⟩ : Str))[i]? = some k ∧ v = .str k t := fun i v ⟨c, u, q, e⟩ => by
    refine ⟨⟨#[c]⟩, u, ?_, e⟩
    rw [List.getElem?_map, Array.getElem?_toList, q] <;> rfl
  have hS : (s.heap.push (fresh w)).get? s.heap.objs.size = some (fresh w) := Heap.get?_push_size _ rfl
  have hT : Shared.TypeIs { s with heap := s.heap.push (fresh w) } (.ref s.heap.objs.size) "set" := ⟨_, hS, rfl⟩
  have hTx : Shared.TypeIs { s with heap := s.heap.push (fresh w) } (.str x t) "str" := typeIs_str _ x t
  have f1 := PySem.F.sub_str_set
  have f2 := PySem.F.sub_str_frozenset
  have f3 : (Value.type "str" == Value.type "dict") = false := by decide
  have z1 : (s.heap.push (fresh w)).objs.size = s.heap.objs.size + 1 := Heap.size_push ..
  unfold Builtin.«set.__init__» noKeywords Builtin.Frozenset.updateFrom
  generalize ePI : pyIter = PI
  wp_walk
  subst ePI
  refine wpAny_pyIter_str fun o St W st => ?_
  refine wpAny_bind (wpAny_runValue ?_)
  refine fill ((W _ (by simp [hh])).toS) s.heap.objs.size (by rw [z1]; simp) _ hsz.symm (by rw [hsz, ← hx]; exact hb) hv (x.cps.size - 0) 0 _ rfl (Nat.zero_le _)
    st ⟨[], at_fresh (Heap.get?_push_of_some _ hS), Nat.le_refl _, fun k => by simp⟩ fun s' m mv hA mem hm => ?_
  show wpAny _ _ _ _ _ _
  refine wpAny_pure ?_
  show wpAny _ _ (ret Value.none) _ _ _
  refine wpAny_pure ⟨rfl, left_of (wr := [_]) rfl ?_ ?k1 ?e1 ?e2 ?e3 mv hA mem (by rw [hsz]; exact hm)⟩
  case k1 => exact fun b o e => Heap.get?_push_of_some _ (Heap.get?_push_of_some _ e)
  case e1 => rfl
  case e2 => rfl
  case e3 => rfl
  intro b q
  rw [List.mem_singleton.mp q]
  show _ ≤ (s.heap.push (fresh w)).objs.size
  rw [z1]
  exact Nat.le_succ _

/-! ### sorted(set) -/
theorem texts_of {es : List (Int × Value)} (el : ElemsOf (strKind P w) es) : ∀ vs : List Value, (∀ v ∈ vs, v ∈ es.map (·.2)) → ∃ ks : List Str, StrsAre vs ks ∧ (∀ k, k ∈ ks ↔ ∃ v ∈ vs, (strKind P w).is k v = true) ∧ ks.length = vs.length
  | [], _ => ⟨[], .nil, fun k => by simp, rfl⟩
  | v :: vs, h => by
    obtain ⟨ks, h1, h2, h3⟩ := texts_of el vs fun u q => h u (List.mem_cons_of_mem _ q)
    obtain ⟨e, he, ev⟩ := List.mem_map.mp (h v List.mem_cons_self)
    obtain ⟨⟨k, hk, _⟩, _⟩ := el e he
    rw [ev] at hk
    obtain ⟨t, rfl⟩ := Value.isStrOf_shape hk
    refine ⟨k :: ks, .cons k t h1, fun j => ?_, by rw [List.length_cons, List.length_cons, h3]⟩
    rw [List.mem_cons, h2 j]
    constructor
    · rintro (q | ⟨u, hu, q⟩)
      · exact ⟨_, List.mem_cons_self, by rw [q]; exact hk⟩
      · exact ⟨u, List.mem_cons_of_mem _ hu, q⟩
    · rintro ⟨u, hu, q⟩
      rcases List.mem_cons.mp hu with z | z
      · rw [z] at q
        exact .inl ((strKind P w).inj _ _ _ q hk)
      · exact .inr ⟨u, z, q⟩
theorem sorted_at {a : Addr} {l : List Str} {Q : Value → Shared → Prop} (R : At P w s.heap a l) (hh : A.handled = none) (h64 : l.length < 64)
    (hQ : ∀ s' p (out : Array Value) (c : Nat) (ys : List Str), (∀ b o, s.heap.get? b = some o → s'.heap.get? b = some o) → s'.gens = s.gens → s'.os = s.os → s.heap.objs.size ≤ p →
      s'.heap.get? p = some (seqObj "list" out c) → StrsAre out.toList ys → ys.Perm l → sortedS ys = true → Q (.ref p) s') :
    wpAny (model P w) A (call (.builtin "sorted") [.ref a]) Q E s := by
  obtain ⟨⟨es, ep, t⟩, ho, ok⟩ := R
  have ft : t.fits es.size = true := ok.tx.fit
  have z : es.size = l.length := ok.tx.sz
  have sb : es.size < scanBound := by
    unfold scanBound
    omega
  refine Calls.call_function_entry kind_sorted plain_sorted entry_sorted (args_sorted1 _) ?_
  unfold Builtin.«sorted»
  refine wpAny_bind (m := checkCount "sorted" 1 1 _) (wpAny_pure ?_)
  refine wpAny_bind (collect_set (A := A.in1) hh ⟨_, ho, rfl, rfl⟩ ft sb ok.up ok.led fun s1 vs k1 hz g1 o1 pm => ?_)
  obtain ⟨ks, hS, mem, hlen⟩ := texts_of ok.tx.el vs fun v hv => pm.mem_iff.mp hv
  have vl : vs.length = l.length := by rw [pm.length_eq, List.length_map, Array.length_toList]; exact z
  have pk : ks.Perm l := perm_of_sub l ks ok.nd (fun k hk => by
    obtain ⟨e, he, q⟩ := (ok.tx.mem k).mp hk
    exact (mem k).mpr ⟨e.2, pm.mem_iff.mpr (List.mem_map.mpr ⟨e, he, rfl⟩), q⟩) (by omega)
  refine wpAny_bind (wpAny_newList ?_ (by rw [vl, sizeLine_eq]; omega))
  have hoL : (s1.heap.push (seqObj "list" vs.toArray 0)).get? s1.heap.objs.size = some (seqObj "list" vs.toArray 0) := Heap.get?_push_size _ rfl
  refine wpAny_bind (wpAny_holding (wpAny_call_entry slot_list_sort ⟨_, hoL, rfl⟩ entry_list_sort
    (list_sort_treeK strKind_oneLt hoL hS.keysOf (fun v₁ v₂ rest e => keyKind_strs (by rw [← e]; exact hS)) (by rw [vl]; exact h64) fun st' hp hs => ?_) (args_list_sort _)))
  obtain ⟨ys, y1, y2, y3⟩ := sorted_out_str hS hp hs
  obtain ⟨c, hc⟩ := sortedHeap_at (vs := vs) (out := Array.map (fun x => x.snd) (arrOf st')) hoL
  refine ⟨_, rfl, wpAny_pure ⟨_, rfl, hQ _ s1.heap.objs.size _ c ys (fun b u e => ?_) g1 o1 hz hc y1 (y2.trans pk) y3⟩⟩
  have q := k1 b u e
  have lt := Heap.lt_size q
  show (sortedHeap (s1.heap.push (seqObj "list" vs.toArray 0)) s1.heap.objs.size vs _).get? b = some u
  rw [sortedHeap_old (Nat.ne_of_lt lt) (by rw [Heap.size_push]; exact Nat.lt_succ_of_lt lt)]
  exact Heap.get?_push_of_some _ q
end

/-! ### over the layer -/
def SetTx (P : Program) (w : World) (a : Addr) (l : List Str) : HO := .ext fun h => At P w h a l
theorem setTx_new {P : Program} {w : World} {H : Hp} {h : Heap} {a : Addr} {l : List Str} (R : At P w h a l) : ObjOk P w H h a (SetTx P w a l) := by
  have ⟨D, hD, _⟩ := R
  exact ⟨R, ⟨_, hD⟩, fun h1 h2 p k => At.move p k⟩
section
variable {X : Cx}
/-- set(xs), xs a list of texts -/
def rSetL (K : PySem.W.Frag) (P : Program) (w : World) : List V → Hp → VK → Prop := fun xs H Q => ∃ (l : Addr) (ss : List Str), xs = [V.ref l] ∧ SqL K H l (ss.map V.str) ∧ ss.length + 1 < scanBound ∧
  ∀ (a : Addr) (ls : List Str), H a = none → ls.Nodup → (∀ k, k ∈ ls ↔ k ∈ ss) → ls.length ≤ ss.length → Q (.ref a) (upd H a (SetTx P w a ls))
theorem At.nd {P : Program} {w : World} {h : Heap} {a : Addr} {l : List Str} (x : At P w h a l) : l.Nodup := by
  obtain ⟨D, _, o⟩ := x
  exact o.nd
theorem cr_setL (hc : X.calm = true) : CallR X (.type "set") (rSetL X.K X.prog X.w) := by
  intro pins s σ H xs us Q I r h
  obtain ⟨l, ss, rfl, hs, hb, q⟩ := h
  obtain ⟨its, rv, hl, _⟩ := I.list hs
  rw [Vals.ref1 r]
  have hn : H s.heap.objs.size = none := I.hok.fresh (Nat.le_refl _)
  refine call_set_of (xs := ss) (fun A' e => init_list (e.trans (I.ok.hd hc)) hl.isList rv.strs hb) fun s' L => ?_
  obtain ⟨h', tk, ls, rfl, hA, mem, hlen, kp⟩ := L
  exact ⟨.ref s.heap.objs.size, upd H s.heap.objs.size (SetTx X.prog X.w s.heap.objs.size ls), I.laid (t' := tk) kp (Nat.le_refl _) (setTx_new hA), rfl, q _ ls hn hA.nd mem hlen⟩
def signs (x : Str) : List Str := x.cps.toList.map fun c => (⟨#[c]⟩ : Str)
/-- set(x), x a text -/
def rSetT (P : Program) (w : World) : List V → Hp → VK → Prop := fun xs H Q => ∃ (x : Str), xs = [V.str x] ∧ x.length + 1 < scanBound ∧
  ∀ (a : Addr) (ls : List Str), H a = none → ls.Nodup → (∀ k, k ∈ ls ↔ k ∈ signs x) → ls.length ≤ x.length → Q (.ref a) (upd H a (SetTx P w a ls))
theorem cr_setT (hc : X.calm = true) : CallR X (.type "set") (rSetT X.prog X.w) := by
  intro pins s σ H xs us Q I r h
  obtain ⟨x, rfl, hb, q⟩ := h
  obtain ⟨t, rfl⟩ : ∃ t, us = [Value.str x t] := by
    cases r with
    | cons r1 r2 =>
      cases r2
      obtain ⟨t, rfl⟩ := r1
      exact ⟨t, rfl⟩
  have hn : H s.heap.objs.size = none := I.hok.fresh (Nat.le_refl _)
  refine call_set_of (xs := x.cps.toList.map fun c => (⟨#[c]⟩ : Str)) (fun A' e => init_text (e.trans (I.ok.hd hc)) hb) fun s' L => ?_
  obtain ⟨h', tk, ls, rfl, hA, mem, hlen, kp⟩ := L
  rw [List.length_map, Array.length_toList] at hlen
  exact ⟨.ref s.heap.objs.size, upd H s.heap.objs.size (SetTx X.prog X.w s.heap.objs.size ls), I.laid (t' := tk) kp (Nat.le_refl _) (setTx_new hA), rfl, q _ ls hn hA.nd mem hlen⟩
/-- sorted(found) of texts, fewer than 64 -/
def rSortTx (P : Program) (w : World) : List V → Hp → VK → Prop := fun vs H Q => ∃ (a : Addr) (l : List Str), vs = [V.ref a] ∧ H a = some (SetTx P w a l) ∧ l.length < 64 ∧
  ∀ (ys : List Str) (p : Addr), ys.Perm l → sortedS ys = true → H p = none → Q (.ref p) (upd H p (.lst (ys.map V.str)))
theorem cr_sortTx (hc : X.calm = true) : CallR X (.builtin "sorted") (rSortTx X.prog X.w) := by
  intro pins s σ H vs us Q I r h
  obtain ⟨a, l, rfl, ha, h64, q⟩ := h
  have R : At X.prog X.w s.heap a l := (I.hok a _ ha).1
  rw [Vals.ref1 r]
  refine sorted_at R (I.ok.hd hc) h64 fun s' p out c ys k g o hp hg hi pm so => ?_
  have hlen : (ys.map V.str).length ≤ sizeLine := by
    rw [List.length_map, pm.length_eq, sizeLine_eq]
    omega
  have hn : H p = none := I.hok.fresh hp
  have J : Inv X pins σ (upd H p (.lst (ys.map V.str))) { s with heap := s'.heap, gens := s'.gens, drawn := s'.drawn, toks := s'.toks } :=
    I.call (ch := []) (Un.laid k hp hn) (I.hok.laid k hp ⟨hlen, out.toList, c, vals_of_strs hi, hg⟩) (by rw [g]; exact I.bare) (fun _ z => nomatch z)
  have e : s' = { s with heap := s'.heap, gens := s'.gens, drawn := s'.drawn, toks := s'.toks } := by
    cases s'
    cases s
    cases o
    rfl
  rw [e]
  exact ⟨.ref p, _, J, rfl, q ys p pm so hn⟩
end
end TX
namespace DW
open PySem PySem.Spec PyProof.Rows L2
def topS (i : Nat) : Stmt := PySem.Challenge.pw_downwords_k09_whole_reduced_products.main.body.getD i (.Pass ⟨0, 0, 0, 0⟩)
abbrev sIsAscending : Stmt := topS 1
abbrev sIsWord : Stmt := topS 2
abbrev sIsFactor : Stmt := topS 4
abbrev sIsProduct : Stmt := topS 5
abbrev sSwallows : Stmt := topS 6
abbrev sCovers : Stmt := topS 7
abbrev sReduceProduct : Stmt := topS 8
abbrev sUnfold : Stmt := topS 9
abbrev sBehind : Stmt := topS 10
abbrev sPlaceBehind : Stmt := topS 11
abbrev sIsIncluded : Stmt := topS 12
abbrev sSubwordsProduct : Stmt := topS 13
abbrev sAccepts : Stmt := topS 14
abbrev sBegin : Stmt := topS 16
abbrev sDraw : Stmt := topS 17
abbrev sPick : Stmt := topS 18
abbrev sAlpha : Stmt := topS 19
abbrev sFactor : Stmt := topS 20
abbrev sProduct : Stmt := topS 21
abbrev sLWords : Stmt := topS 22
abbrev sLInProduct : Stmt := topS 23
abbrev sLHolds : Stmt := topS 24
abbrev sLPadded : Stmt := topS 25
abbrev sLaw : Stmt := topS 26
end DW
/-! zip(text, text) -/
namespace ZX
open PySem PySem.Spec PyProof.Rows L2
/-- the signs of two texts, side by side, in new pairs -/
def Itx (x y : Str) : It :=
  ⟨fun i _ => i < x.cps.size ∧ i < y.cps.size,
    fun i H v H' => ∃ (T : Addr) (c d : Nat), v = .ref T ∧ H T = none ∧ H' = upd H T (.tup [.str ⟨#[c]⟩, .str ⟨#[d]⟩]) ∧ x.cps[i]? = some c ∧ y.cps[i]? = some d,
    fun i _ => i = min x.cps.size y.cps.size⟩
theorem turn_zipX {P : Program} {w : World} {K : PySem.W.Frag} {elts : List Expr} {kk : Nat} {tpos : Pos} {x y : Str} {t u : Tok} {z TI TO i1 i2 : Addr} (S : ZipSep2 z TI TO i1 i2 [i1] [i2]) :
    Turn P w K (.Tuple elts kk tpos) (Itx x y) [z, TI, TO, i1, i2] z (fun i h => IsZip h z TI TO .none ∧ IsTupOf2 h TI (.ref i1) (.ref i2) ∧ (∃ a b, IsTupOf2 h TO a b) ∧ h.IsStrIter i1 (strIterType x) x t i ∧ h.IsStrIter i2 (strIterType y) y u i) where
  mem := by simp
  obj := fun i h st c hc => by
    obtain ⟨hz, hTI, ⟨a, b, hTO⟩, ⟨o1, e1, _, d1⟩, ⟨o2, e2, _, d2⟩⟩ := st
    have e' : c = z ∨ c = TI ∨ c = TO ∨ c = i1 ∨ c = i2 := by simpa using hc
    rcases e' with q | q | q | q | q
    · rw [q]; exact ⟨_, hz, fun v q => nomatch q⟩
    · rw [q]; exact ⟨_, hTI, fun v q => nomatch q⟩
    · rw [q]; exact ⟨_, hTO, fun v q => nomatch q⟩
    · rw [q]; exact ⟨o1, e1, fun v q => by rw [d1] at q; cases q⟩
    · rw [q]; exact ⟨o2, e2, fun v q => by rw [d2] at q; cases q⟩
  keep := fun i h h' st k => by
    obtain ⟨hz, hTI, ⟨a, b, hTO⟩, ⟨o1, e1, r1⟩, ⟨o2, e2, r2⟩⟩ := st
    exact ⟨k z (by simp) _ hz, k TI (by simp) _ hTI, ⟨a, b, k TO (by simp) _ hTO⟩, ⟨o1, k i1 (by simp) _ e1, r1⟩, ⟨o2, k i2 (by simp) _ e2, r2⟩⟩
  item := by
    intro X hP hw hK hc i pins s σ H E I hf st hg
    subst hP hw hK
    obtain ⟨hz, hTI, ⟨a0, b0, hTO⟩, h1, h2⟩ := st
    have hzl : z < s.heap.objs.size := Heap.lt_size hz
    refine wpAny_pyNext_zipD2_item S (Draws.text (A := X.A.in1) (I.ok.hd hc) i1 x t) (Draws.text (A := X.A.in1) (I.ok.hd hc) i2 y u) hz hTI hTO h1 h2 hg.1 hg.2 fun v1 v2 h' tk p1 p2 z' TO' h1' h2' hT hsz hk => ?_
    obtain ⟨c, tc, hc1, rfl⟩ := p1
    obtain ⟨d, td, hd1, rfl⟩ := p2
    refine ⟨_, rfl, wpAny_letOwnedTupleGo_zip (s := { s with heap := h', toks := tk }) z' fun h'' z'' sb => ?_⟩
    have hT2 : h''.get? s.heap.objs.size = some { cls := .type "tuple", data := .seq #[.str ⟨#[c]⟩ tc, .str ⟨#[d]⟩ td] } := (sb.2 _ (Nat.ne_of_gt hzl)).trans hT
    have new : ObjOk X.prog X.w (upd H s.heap.objs.size (.tup [.str ⟨#[c]⟩, .str ⟨#[d]⟩])) h'' s.heap.objs.size (.tup [.str ⟨#[c]⟩, .str ⟨#[d]⟩]) :=
      ⟨by show 2 ≤ sizeLine; decide, [.str ⟨#[c]⟩ tc, .str ⟨#[d]⟩ td], .cons ⟨_, rfl⟩ (.cons ⟨_, rfl⟩ .nil), ⟨_, hT2, rfl, _, rfl⟩⟩
    have I1 : Inv X pins σ (upd H s.heap.objs.size (.tup [.str ⟨#[c]⟩, .str ⟨#[d]⟩])) { s with heap := h'', toks := tk } :=
      I.turnedNew (t' := tk) (ch := [z, TI, TO, i1, i2]) (fun c o hb q => (sb.2 c (fun q' => hb (by simp [q']))).trans (hk c o (fun q' => hb (by simp [q'])) (fun q' => hb (by simp [q'])) (fun q' => hb (by simp [q'])) (fun q' => hb (by simp [q'])) q)) hf (Nat.le_refl _) new
    have st' : ∀ {a : Addr} {ty : String} {v : Str} {tv : Tok} {n : Nat}, a ≠ z → h'.IsStrIter a ty v tv n → h''.IsStrIter a ty v tv n := fun n ⟨o, e, r⟩ => ⟨o, (sb.2 _ n).trans e, r⟩
    refine ⟨.ref s.heap.objs.size, _, I1, rfl, ⟨_, c, d, rfl, I.hok.fresh (Nat.le_refl _), rfl, hc1, hd1⟩, ⟨z'', ?_, ⟨.str ⟨#[c]⟩ tc, .str ⟨#[d]⟩ td, ?_⟩, st' S.zi1.symm h1', st' S.zi2.symm h2'⟩, fun b hb => ?_⟩
    · exact (sb.2 _ S.TIz).trans (hk _ _ S.TIz S.TITO S.TIi1 S.TIi2 hTI)
    · exact (sb.2 _ S.TOz).trans TO'
    · have hlt : b < s.heap.objs.size := by
        have e' : b = z ∨ b = TI ∨ b = TO ∨ b = i1 ∨ b = i2 := by simpa using hb
        rcases e' with q | q | q | q | q
        · rw [q]; exact hzl
        · rw [q]; exact Heap.lt_size hTI
        · rw [q]; exact Heap.lt_size hTO
        · rw [q]; obtain ⟨_, e1, _⟩ := h1; exact Heap.lt_size e1
        · rw [q]; obtain ⟨_, e2, _⟩ := h2; exact Heap.lt_size e2
      rw [upd_ne (Nat.ne_of_lt hlt)]
      exact (hf b hb).1
  done := by
    intro X hP hw hK hc i pins s σ H E I hf st hg
    subst hP hw hK
    obtain ⟨hz, hTI, ⟨a0, b0, hTO⟩, h1, h2⟩ := st
    have hg' : i = min x.cps.size y.cps.size := hg
    exact wpAny_pyNext_zipD2_end S (Draws.text (A := X.A.in1) (I.ok.hd hc) i1 x t) (Draws.text (A := X.A.in1) (I.ok.hd hc) i2 y u) hz hTI hTO h1 h2 (by omega) (by omega) (by omega) fun h' tk hk => ⟨rfl, I.turnedL (t' := tk) (ch := [z, TI, TO, i1, i2]) (fun c o hb q =>
      hk c o (fun q' => hb (by simp [q'])) (fun q' => hb (by simp [q'])) (fun q' => hb (by simp [q'])) (fun q' => hb (by simp [q'])) q) hf⟩
  self := fun A i s Q E st h => wpAny_pyIter_zip st.1 h
theorem sep_new (n : Addr) : ZipSep2 (n + 4) (n + 2) (n + 3) n (n + 1) [n] [n + 1] := by
  constructor <;> simp <;> omega
def iZipX (ta : TA) : TI := fun σ H R => ta σ H fun vs H1 => ∃ x y : Str, vs = [.str x, .str y] ∧ R (Itx x y) H1
theorem pi_zipX {X : Cx} {e e2 : Expr} {ta : TA} {p pos tpos : Pos} {elts : List Expr} {kk : Nat} (hg : Gl X "zip") (hm : X.mg "zip" = none) (ha : PA X [e, e2] ta)
    (hs : starEach [e, e2] X.env = (false, eval e X.env) :: starEach [e2] X.env := by rfl) (hpl : (backTo pos (starEach [e2] X.env)).any (·.1) = false := by rfl) :
    PI X (.Tuple elts kk tpos) (.Call (.Name "zip" p) [e, e2] [] pos) (iZipX ta) := by
  refine ⟨fun pins s σ H R I h => ?_⟩
  refine Call_ (ld_blt I hg hm PyProof.Rows.boot_zip (PyProof.Rows.callWith_type1 (thn (ha.run pos pins s σ H _ I h) fun us s1 ⟨vs, H1, I1, r1, q1⟩ => ?_) hs hpl))
  obtain ⟨x, y, ex, q⟩ := q1
  subst ex
  cases r1 with
  | cons r rr =>
    cases rr with
    | cons r' rr =>
      cases rr
      obtain ⟨t, rfl⟩ := r
      obtain ⟨u, rfl⟩ := r'
      refine zip_begins2 (begins_text x t) (begins_text y u) trivial trivial fun h' hz hTI hTO h1 h2 hsz hk => wpAny_pyIter_zip hz ?_
      have I2 : Inv X pins σ H1 { s1 with heap := h' } := I1.kept (t' := s1.toks) hk
      refine ⟨s1.heap.objs.size + 4, [s1.heap.objs.size + 4, s1.heap.objs.size + 2, s1.heap.objs.size + 3, s1.heap.objs.size, s1.heap.objs.size + 1], _, _, H1, rfl, I2, turn_zipX (sep_new s1.heap.objs.size), ⟨hz, hTI, ⟨_, _, hTO⟩, ⟨_, h1, rfl, rfl⟩, ⟨_, h2, rfl, rfl⟩⟩, fun c hcm => ?_, q⟩
      have e' : c = s1.heap.objs.size + 4 ∨ c = s1.heap.objs.size + 2 ∨ c = s1.heap.objs.size + 3 ∨ c = s1.heap.objs.size ∨ c = s1.heap.objs.size + 1 := by simpa using hcm
      have hle : s1.heap.objs.size ≤ c := by
        rcases e' with z | z | z | z | z
        · rw [z]; exact Nat.le_add_right _ _
        · rw [z]; exact Nat.le_add_right _ _
        · rw [z]; exact Nat.le_add_right _ _
        · rw [z]; exact Nat.le_refl _
        · rw [z]; exact Nat.le_add_right _ _
      exact I1.fpOk hle (I1.hok.fresh hle)
theorem walk_zipX {x y : Str} : Walk (Itx x y) (min x.cps.size y.cps.size) (fun _ => True) (Itx x y).yld :=
  ⟨fun i _ hi _ => ⟨by omega, by omega⟩, fun _ _ => rfl, fun _ _ _ _ _ _ y => y⟩
end ZX
/-! list(text); text[::-1] as a text of the same length -/
namespace R1
open PySem PySem.Spec PyProof.Rows L2
theorem texts_in : ∀ l : List Value, (∀ v ∈ l, ∃ z t, v = .str z t) → ∃ ss : List Str, Vals (ss.map V.str) l
  | [], _ => ⟨[], .nil⟩
  | v :: l, h => by
    obtain ⟨ss, r⟩ := texts_in l fun u hu => h u (List.mem_cons_of_mem _ hu)
    obtain ⟨z, t, rfl⟩ := h v List.mem_cons_self
    exact ⟨z :: ss, .cons ⟨t, rfl⟩ r⟩
section
variable {X : Cx}
theorem cr_listT (hc : X.calm = true) : CallR X (.type "list") (fun xs H Q => ∃ x : Str, xs = [.str x] ∧ x.length ≤ sizeLine ∧ ∀ p (ss : List Str), H p = none → Q (.ref p) (upd H p (.lst (ss.map V.str)))) := by
  intro pins s σ H xs us Q I r h
  obtain ⟨x, rfl, hb, q⟩ := h
  obtain ⟨t, rfl⟩ : ∃ t, us = [Value.str x t] := by
    cases r with
    | cons r1 r2 =>
      cases r2
      obtain ⟨t, rfl⟩ := r1
      exact ⟨t, rfl⟩
  refine call_list_str (I.ok.hd hc) x t (hn := hb) fun h' tk acc c hk hS hacc => ?_
  obtain ⟨ss, rv⟩ := texts_in acc.toList fun v hv => by
    obtain ⟨j, hj⟩ := List.getElem?_of_mem hv
    obtain ⟨c, u, _, e⟩ := hacc.2 j v (by simpa using hj)
    exact ⟨_, u, e⟩
  have hl : (ss.map V.str).length ≤ sizeLine := by
    rw [rv.length, Array.length_toList, hacc.1]
    exact hb
  exact ⟨.ref s.heap.objs.size, upd H s.heap.objs.size (.lst (ss.map V.str)), I.laid (t' := tk) hk (Nat.le_refl _) ⟨hl, acc.toList, c, rv, hS⟩, rfl, q _ ss (I.hok.fresh (Nat.le_refl _))⟩
def tRevT (te : TE) : TE := fun σ H Q => te σ H fun x H1 => ∃ z : Str, x = .str z ∧ z.length ≤ sizeLine ∧ ∀ y : Str, y.length ≤ z.length → (∀ c ∈ y.cps.toList, c ∈ z.cps.toList) → Q (.str y) H1
theorem pe_revT {e : Expr} {te : TE} {k : Nat} {p1 p2 p3 pos : Pos} (he : PE X e te) : PE X (.Subscript e (.Slice none none (some (.UnaryOp .USub (.Constant (.int 1) k p1) p2)) p3) pos) (tRevT te) := by
  refine ⟨fun pins s σ H Q I h => ?_⟩
  refine Subscript_ (thn (he.run pins s σ H _ I h) fun v s1 ⟨x, H1, I1, r1, q1⟩ => ?_)
  obtain ⟨z, ex, hz, q⟩ := q1
  subst ex
  obtain ⟨t, rfl⟩ := r1
  have hst : PO X (some (.UnaryOp .USub (.Constant (.int 1) k p1) p2)) (tPart (tUn (rU fun i => .int (-i)) (tC (.int 1)))) := po_some (pe_un un_neg pe_int)
  refine wpAny_Slice (thn (po_none.run pins s1 σ H1 (fun o H2 => o = none ∧ H2 = H1) I1 ⟨rfl, rfl⟩) fun vl s2 ⟨l, H2, I2, pl, el, e2⟩ => ?_)
  subst el e2
  refine thn (po_none.run pins s2 σ H2 (fun o H3 => o = none ∧ H3 = H2) I2 ⟨rfl, rfl⟩) fun vu s3 ⟨u, H3, I3, pu, eu, e3⟩ => ?_
  subst eu e3
  refine thn (hst.run pins s3 σ H3 (fun o H4 => o = some (-1) ∧ H4 = H3) I3 ⟨1, rfl, -1, rfl, rfl, rfl⟩) fun vs s4 ⟨o, H4, I4, ps, eo, e4⟩ => ?_
  subst eo e4
  obtain ⟨l1, rfl, el⟩ := IsPart.raw pl
  obtain ⟨u1, rfl, eu⟩ := IsPart.raw pu
  obtain ⟨st1, rfl, es⟩ := IsPart.raw ps
  have I5 : Inv X pins σ H4 { s4 with heap := s4.heap.push { cls := .type "slice", data := .fields #[partValue l1, partValue u1, partValue st1] } } := I4.kept (t' := s4.toks) fun b ob q => Heap.get?_push_of_some _ q
  show wpAny (model X.prog X.w) X.A (subscriptTail e (.Slice none none (some (.UnaryOp .USub (.Constant (.int 1) k p1) p2)) p3) (.str z t) (.ref s4.heap.objs.size)) (EP X pins σ Q) X.xe { s4 with heap := s4.heap.push { cls := .type "slice", data := .fields #[partValue l1, partValue u1, partValue st1] } }
  refine tail_any (ops := [.str z t, .ref s4.heap.objs.size]) (typeIs_str _ _ _) (F.slot_str_getitem.lookup) ?_ (by with_unfolding_all rfl)
  refine wpAny_getItem_str_slice (l := l1) (u := u1) (st := st1) ⟨_, Heap.get?_push_size _ rfl, rfl, rfl⟩ (by rw [es]; rfl) ?_
  have e0 : sliceMade z t l1 u1 st1 = .str ⟨(((List.range z.length).map fun k => z.length - 1 - k).filterMap (z.cps[·]?)).toArray⟩ := by
    unfold sliceMade slicePicked
    rw [el, eu, es]
    show (if ((-1 : Int) == 1 && _) = true then _ else _) = _
    rw [if_neg (by simp)]
    show Made.str ⟨((sliceRange ((z.length : Int) - 1) (-1) (-1)).filterMap (z.cps[·]?)).toArray⟩ = _
    rw [PySem.W.krv_sliceRange]
  rw [e0]
  have hl : (⟨(((List.range z.length).map fun k => z.length - 1 - k).filterMap (z.cps[·]?)).toArray⟩ : Str).length ≤ z.length := by
    show (((List.range z.length).map fun k => z.length - 1 - k).filterMap (z.cps[·]?)).toArray.size ≤ _
    rw [List.size_toArray]
    refine Nat.le_trans (List.length_filterMap_le _ _) ?_
    rw [List.length_map, List.length_range]
    exact Nat.le_refl _
  have hm : ∀ c ∈ (⟨(((List.range z.length).map fun k => z.length - 1 - k).filterMap (z.cps[·]?)).toArray⟩ : Str).cps.toList, c ∈ z.cps.toList := fun c hc => by
    have hc' : c ∈ ((List.range z.length).map fun k => z.length - 1 - k).filterMap (z.cps[·]?) := by simpa using hc
    obtain ⟨i, _, hi⟩ := List.mem_filterMap.mp hc'
    rw [← Array.getElem?_toList] at hi
    exact List.mem_of_getElem? hi
  exact ⟨Nat.le_trans hl hz, .str _, H4, I5.tok _, ⟨_, rfl⟩, q _ hl hm⟩
end
end R1
namespace DW
open PySem PySem.Spec PyProof.Rows L2
/-! ### a def that stands in the module -/
structure Df (K : PySem.W.Frag) (mg : Str → Option Value) (x : Str) (st : Stmt) (ps : List Str) where
  f : Addr
  fd : FuncData
  F : FunD K x x (defArgs st) (defBody st) (defScope st) [] [] f fd
  g : mg x = some (.ref f)
  b : Binds K fd ps []
/-! ### heaps: all but the tape stays -/
structure Kp (t : Addr) (H H' : Hp) : Prop where
  old : ∃ kvs, H t = some (.dK kvs)
  new : ∃ kvs, H' t = some (.dK kvs)
  oth : ∀ b o, b ≠ t → H b = some o → H' b = some o
theorem Kp.trans {t : Addr} {H H1 H2 : Hp} (a : Kp t H H1) (b : Kp t H1 H2) : Kp t H H2 := ⟨a.old, b.new, fun c o n e => b.oth c o n (a.oth c o n e)⟩
theorem Kp.of {t : Addr} {H H' : Hp} {kvs : List (Key × V)} (e : H t = some (.dK kvs)) (s : Same H H') : Kp t H H' := ⟨⟨_, e⟩, ⟨_, s _ _ e⟩, fun b o _ h => s b o h⟩
theorem Kp.at {t b : Addr} {H H' : Hp} {o : HO} (k : Kp t H H') (h : H b = some o) (n : ∀ kvs, o ≠ .dK kvs) : H' b = some o := by
  obtain ⟨kvs, e⟩ := k.old
  exact k.oth b o (fun z => by
    subst z
    rw [e] at h
    exact n kvs (Option.some.inj h).symm) h
theorem Kp.lst {t b : Addr} {H H' : Hp} {xs : List V} {K : PySem.W.Frag} (k : Kp t H H') (h : SqL K H b xs) : SqL K H' b xs := by
  rcases h with (h | ⟨o, h⟩) | h
  · exact .inl (.inl (k.at h fun _ z => by cases z))
  · exact .inl (.inr ⟨o, k.at h fun _ z => by cases z⟩)
  · exact .inr h
theorem Kp.tup {t b : Addr} {H H' : Hp} {xs : List V} {K : PySem.W.Frag} (k : Kp t H H') (h : SqT K H b xs) : SqT K H' b xs := by
  rcases h with (h | ⟨o, h⟩) | h
  · exact .inl (.inl (k.at h fun _ z => by cases z))
  · exact .inl (.inr ⟨o, k.at h fun _ z => by cases z⟩)
  · exact .inr h
theorem same_upd {H : Hp} {p : Addr} {o : HO} (h : H p = none) : Same H (upd H p o) := fun b x e => by
  rw [upd_ne (ne_of_none e h)]
  exact e
theorem Kp.gone {t b : Addr} {H H' : Hp} (k : Kp t H H') (h : H' b = none) : H b = none := by
  cases q : H b with
  | none => rfl
  | some o =>
    by_cases e : b = t
    · obtain ⟨kvs, z⟩ := k.new
      rw [e, z] at h
      cases h
    · rw [k.oth b o e q] at h
      cases h
/-! ### the tape -/
def tpd (c : Addr) (p l : Int) : List (Key × V) := [(.inr "cells", .ref c), (.inr "place", .int p), (.inr "left", .int l)]
structure Tape (H : Hp) (t c : Addr) (n : Nat) : Prop where
  ex : ∃ (cells : List Int) (p : Nat) (l : Int), H t = some (.dK (tpd c p l)) ∧ H c = some (.lst (cells.map V.int)) ∧ 0 < cells.length ∧ cells.length ≤ 63 ∧ p ≤ n ∧ 0 ≤ l
section
variable {H H' : Hp} {t c : Addr} {n m : Nat}
theorem Tape.dk (T : Tape H t c n) : ∃ kvs, H t = some (.dK kvs) := by
  obtain ⟨cells, p, l, h, _⟩ := T.ex
  exact ⟨_, h⟩
theorem Tape.same (T : Tape H t c n) (s : Same H H') : Tape H' t c n := by
  obtain ⟨cells, p, l, h, hc, r⟩ := T.ex
  exact ⟨cells, p, l, s _ _ h, s _ _ hc, r⟩
theorem Tape.kp (T : Tape H t c n) (s : Same H H') : Kp t H H' := by
  obtain ⟨kvs, h⟩ := T.dk
  exact Kp.of h s
theorem Tape.mono (T : Tape H t c n) (h : n ≤ m) : Tape H t c m := by
  obtain ⟨cells, p, l, h1, h2, h3, h4, h5, h6⟩ := T.ex
  exact ⟨cells, p, l, h1, h2, h3, h4, Nat.le_trans h5 h, h6⟩
theorem Kp.refl (T : Tape H t c n) : Kp t H H := T.kp (Same.refl H)
/-- a store at an object that is not the tape's -/
theorem Tape.upd {D : Addr} {o : HO} (T : Tape H t c n) (h1 : D ≠ t) (h2 : D ≠ c) : Tape (upd H D o) t c n := by
  obtain ⟨cells, p, l, h, hc, r⟩ := T.ex
  exact ⟨cells, p, l, (upd_ne h1.symm).trans h, (upd_ne h2.symm).trans hc, r⟩
theorem Tape.ne1 {D : Addr} (T : Tape H t c n) (h : H D = none) : D ≠ t := fun z => by
  obtain ⟨cells, p, l, e, hc, r⟩ := T.ex
  rw [z, e] at h
  cases h
theorem Tape.ne2 {D : Addr} (T : Tape H t c n) (h : H D = none) : D ≠ c := fun z => by
  obtain ⟨cells, p, l, e, hc, r⟩ := T.ex
  rw [z, hc] at h
  cases h
theorem Kp.put {D : Addr} {o : HO} (k : Kp t H H') (h : H D = Option.none) (h1 : D ≠ t) : Kp t H (L2.upd H' D o) := by
  obtain ⟨kvs, e⟩ := k.new
  refine ⟨k.old, ⟨kvs, (upd_ne h1.symm).trans e⟩, fun b u n q => ?_⟩
  rw [upd_ne (ne_of_none q h)]
  exact k.oth b u n q
end
theorem ks1 : ¬ (("cells" : Str) = "place") := by decide +kernel
theorem ks2 : ¬ (("cells" : Str) = "left") := by decide +kernel
theorem ks3 : ¬ (("place" : Str) = "left") := by decide +kernel
theorem ks1' : ¬ (("place" : Str) = "cells") := by decide +kernel
theorem ks2' : ¬ (("left" : Str) = "cells") := by decide +kernel
theorem ks3' : ¬ (("left" : Str) = "place") := by decide +kernel
theorem tp_cells (c : Addr) (p l : Int) : valV (tpd c p l) (Sum.inr ("cells" : Str)) = some (.ref c) := by simp [tpd, valV]
theorem tp_place (c : Addr) (p l : Int) : valV (tpd c p l) (Sum.inr ("place" : Str)) = some (.int p) := by simp [tpd, valV, ks1]
theorem tp_left (c : Addr) (p l : Int) : valV (tpd c p l) (Sum.inr ("left" : Str)) = some (.int l) := by simp [tpd, valV, ks2, ks3]
theorem tp_put_place (c : Addr) (p q l : Int) : putK (tpd c p l) (Sum.inr ("place" : Str)) (.int q) = tpd c q l := by simp [putK, tpd, ks1, ks3']
theorem tp_put_left (c : Addr) (p l m : Int) : putK (tpd c p l) (Sum.inr ("left" : Str)) (.int m) = tpd c p m := by simp [putK, tpd, ks2, ks3]
theorem tp_merge (c : Addr) (p l : Int) : mergeK [] (tpd c p l) = tpd c p l := by simp [mergeK, putK, tpd, ks1, ks2, ks3]
theorem g_cells {H : Hp} {t c : Addr} {p l : Int} (h : H t = some (.dK (tpd c p l))) : DGet H t (.str "cells") (some (.ref c)) := by
  have q := DGet.k (k := Sum.inr ("cells" : Str)) h
  rw [tp_cells] at q
  exact q
theorem g_place {H : Hp} {t c : Addr} {p l : Int} (h : H t = some (.dK (tpd c p l))) : DGet H t (.str "place") (some (.int p)) := by
  have q := DGet.k (k := Sum.inr ("place" : Str)) h
  rw [tp_place] at q
  exact q
theorem g_left {H : Hp} {t c : Addr} {p l : Int} (h : H t = some (.dK (tpd c p l))) : DGet H t (.str "left") (some (.int l)) := by
  have q := DGet.k (k := Sum.inr ("left" : Str)) h
  rw [tp_left] at q
  exact q
theorem p_place {H : Hp} {t c : Addr} {p l : Int} (q : Int) (h : H t = some (.dK (tpd c p l))) : DPut H t (.str "place") (.int q) (upd H t (.dK (tpd c q l))) := by
  have z := DPut.k (k := Sum.inr ("place" : Str)) (v := V.int q) h (by show 3 < sizeLine; decide)
  rw [tp_put_place] at z
  exact z
theorem p_left {H : Hp} {t c : Addr} {p l : Int} (q : Int) (h : H t = some (.dK (tpd c p l))) : DPut H t (.str "left") (.int q) (upd H t (.dK (tpd c p q))) := by
  have z := DPut.k (k := Sum.inr ("left" : Str)) (v := V.int q) h (by show 3 < sizeLine; decide)
  rw [tp_put_left] at z
  exact z
def spBegin (K : PySem.W.Frag) : Sp := fun vs H Q _ => ∃ (a : Addr) (ns : List Int), vs = [.ref a] ∧ SqL K H a (ns.map V.int) ∧ ∀ H' t c, Same H H' → H t = none → H c = none → Tape H' t c 0 → Q (.ref t) H'
def spDraw : Sp := fun vs H Q _ => ∃ (t c : Addr) (m : Int) (n : Nat), vs = [.ref t, .int m] ∧ Tape H t c n ∧ n < 2 ^ 40 ∧ 0 < m ∧ m < 2 ^ 30 ∧ ∀ H' r, Kp t H H' → Tape H' t c (n + 1) → 0 ≤ r → r < m → Q (.int r) H'
/-- pick: from a list, from a text -/
def spPick (K : PySem.W.Frag) : Sp := fun vs H Q _ => ∃ (t c : Addr) (n : Nat) (x : V), vs = [.ref t, x] ∧ Tape H t c n ∧ n < 2 ^ 40 ∧
  ((∃ a xs, x = .ref a ∧ SqL K H a xs ∧ xs ≠ [] ∧ xs.length < 2 ^ 30 ∧ ∀ H' y, Kp t H H' → Tape H' t c (n + 1) → y ∈ xs → Q y H') ∨
   (∃ z : Str, x = .str z ∧ z.length ≠ 0 ∧ z.length < 2 ^ 20 ∧ ∀ H' d, Kp t H H' → Tape H' t c (n + 1) → d ∈ z.cps.toList → Q (.str ⟨#[d]⟩) H'))
section
variable {P : Program} {w : World} {K : PySem.W.Frag} {mg : Str → Option Value} {base : Heap}
theorem scBegin : FnScope ["_law_script"] ["_law_script"] (defScope sBegin) := ⟨rfl, rfl, rfl, by decide +kernel, rfl, by decide +kernel, by decide +kernel⟩
theorem cut63 (ns : List Int) : ∃ ms : List Int, cutV (ns.map V.int) none (some 63) = ms.map V.int ∧ ms.length ≤ 63 := by
  refine ⟨ns.take 63, ?_, ?_⟩
  · unfold cutV
    rw [HT.sIx_none, show HT.sIx (ns.map V.int).length (ns.map V.int).length (some 63) = min 63 (ns.map V.int).length from HT.sIx_nat _ _ 63, List.map_take]
    show List.take _ (List.drop 0 _) = _
    rw [List.drop_zero, Nat.sub_zero]
    by_cases c : 63 ≤ (ns.map V.int).length
    · rw [Nat.min_eq_left c]
    · rw [Nat.min_eq_right (by omega), List.take_length, List.take_of_length_le (by omega)]
  · rw [List.length_take]
    omega
theorem ok_begin (D : Df K mg "_law_begin" sBegin ["_law_script"]) : FnOk P w K mg base CX0 1 D.f D.fd ["_law_script"] (spBegin K) := by
  refine D.F.ok scBegin (fun vs H Q E h => ?_) (fun cdv A outer s H vs Q E hr h => ?_)
  · obtain ⟨a, ns, rfl, _⟩ := h
    rfl
  · obtain ⟨a, ns, rfl, hS, k⟩ := h
    refine ⟨_, pss_one (ps_ret (pe_disp (pps_cons pe_str (pe_orT (pe_slice sl_list (pv 0) po_none (po_some pe_int)) (pe_one (pe_lst (pa_cons pe_int pa_nil)))) (pps_cons pe_str pe_int (pps_cons pe_str pe_int pps_nil))) (by rfl) (by rfl) (fun z => by cases z) (by decide))), ?_⟩
    intro t ht
    have s1 : Same H (upd H t (.dK [])) := same_upd ht
    obtain ⟨ms, em, hm⟩ := cut63 ns
    refine ⟨_, rfl, 63, rfl, a, ns.map V.int, rfl, s1.seq hS, fun c hc => ?_⟩
    have nct : c ≠ t := fun z => by
      rw [z, upd_same] at hc
      cases hc
    rw [em]
    refine ⟨!(ms.map V.int).isEmpty, .inl ⟨_, SqL.of upd_same, rfl⟩, ite2 (fun e => ?_) (fun e => ?_)⟩
    · refine ⟨Eq.trans (upd_ne nct.symm) upd_same, tpd c 0 0, rfl, by show 3 ≤ 15; decide, ?_⟩
      rw [tp_merge]
      refine k _ t c (fun b o eb => ?_) ht (s1.free hc) ⟨ms, 0, 0, upd_same, Eq.trans (upd_ne nct) upd_same, ?_, hm, Nat.le_refl _, Int.le_refl _⟩
      · have nb : b ≠ t := ne_of_none eb ht
        rw [upd_ne nb]
        exact same_upd hc _ _ (s1 _ _ eb)
      · cases ms with
        | nil => cases e
        | cons x r => exact Nat.succ_pos _
    · refine ⟨by show 1 ≤ sizeLine; decide, fun d hd => ?_⟩
      have ndt : d ≠ t := fun z => by
        rw [z, upd_ne nct.symm, upd_same] at hd
        cases hd
      refine ⟨Eq.trans (upd_ne ndt.symm) (Eq.trans (upd_ne nct.symm) upd_same), tpd d 0 0, rfl, by show 3 ≤ 15; decide, ?_⟩
      rw [tp_merge]
      refine k _ t d (fun b o eb => ?_) ht (s1.free ((same_upd hc).free hd)) ⟨[0], 0, 0, upd_same, Eq.trans (upd_ne ndt) upd_same, Nat.succ_pos _, by decide, Nat.le_refl _, Int.le_refl _⟩
      have nb : b ≠ t := ne_of_none eb ht
      rw [upd_ne nb]
      exact same_upd hd _ _ (same_upd hc _ _ (s1 _ _ eb))
theorem scDraw : FnScope ["_law_tape", "_law_many", "_law_place", "_law_count", "_law_cell", "_law_found"] ["_law_tape", "_law_many"] (defScope sDraw) := ⟨rfl, rfl, rfl, by decide +kernel, rfl, by decide +kernel, by decide +kernel⟩
theorem tape_put {H : Hp} {t c : Addr} {cells : List Int} {n p : Nat} {l : Int} {kvs : List (Key × V)} (e : H t = some (.dK kvs)) (hc : H c = some (.lst (cells.map V.int))) (h1 : 0 < cells.length) (h2 : cells.length ≤ 63) (hp : p ≤ n) (hl : 0 ≤ l) :
    Tape (upd H t (.dK (tpd c p l))) t c n := by
  have nct : c ≠ t := ne_of hc e (by intro z; cases z)
  exact ⟨cells, p, l, upd_same, Eq.trans (upd_ne nct) hc, h1, h2, hp, hl⟩
theorem kp_put {H : Hp} {t : Addr} {kvs kvs' : List (Key × V)} (e : H t = some (.dK kvs)) : Kp t H (upd H t (.dK kvs')) := ⟨⟨_, e⟩, ⟨_, upd_same⟩, fun b o n h => (upd_ne n).trans h⟩
theorem ok_draw (D : Df K mg "_law_draw" sDraw ["_law_tape", "_law_many"]) (ml : mg "len" = none) : FnOk P w K mg base CX0 1 D.f D.fd ["_law_tape", "_law_many"] spDraw := by
  refine D.F.ok scDraw (fun vs H Q E h => ?_) (fun cdv A outer s H vs Q E hr h => ?_)
  · obtain ⟨t, c, m, n, rfl, _⟩ := h
    rfl
  · obtain ⟨t, c, m, n, rfl, T, hn, m0, m1, k⟩ := h
    have hu := hu_of hr
    refine ⟨_, C8.pss_cut (ps_if (pt_cmpR op_lt (pe_dget hu (pv 0) pe_str (fun _ _ => rfl)) (pv 1) (nomark _))
        (pss_cons (ps_par (i := 2) (j := 3) rfl scDraw.nd rfl rfl (by decide) rfl rfl (pa_cons (pe_dget hu (pv 0) pe_str (fun _ _ => rfl)) (pa_cons (pe_callB call_len_seq (by rfl) ml PySem.boot_len (pa_cons (pe_dget hu (pv 0) pe_str (fun _ _ => rfl)) pa_nil)) pa_nil)) (by rfl))
        (pss_cons (ps_asg (pe_tup (pa_cons (pe_ix ix_list (pe_dget hu (pv 0) pe_str (fun _ _ => rfl)) (pe_op op_mod (pv 2) (pv 3)) (fun _ _ => rfl)) (pa_cons (pe_op op_add (pv 2) pe_int) pa_nil)))
            (pg_tup rfl (pgs_cons (pg_name (i := 4) scDraw.nd rfl (.inl rfl)) (pgs_cons (pg_sub (pv 0) pe_str (set_dict hu)) pgs_nil))))
        (pss_cons (ps_dput hu (pv 0) pe_str (pe_op op_mod (pe_op op_pow (pe_op op_add (pe_op op_add (pe_op op_mod (pv 4) pe_int) (pe_op op_mul pe_int (pv 2))) pe_int) pe_int) (pe_op op_add (pe_op op_pow pe_int pe_int) pe_int)) rfl)
        (pss_one (ps_if (pw_and (pt_cmpR op_ge (pv 4) (pe_op op_pow pe_int pe_int) (nomark _)) (pw_and1 (pt_cmpR op_lt (pv 2) (pv 3) (nomark _)))).pt
          (pss_one (ps_dput hu (pv 0) pe_str (pe_op op_sub (pv 4) (pe_op op_pow pe_int pe_int)) rfl)) pss_nil))))) pss_nil)
      (pss_cons (ps_asg (pe_tup (pa_cons (pe_op op_mod (pe_dget hu (pv 0) pe_str (fun _ _ => rfl)) (pv 1)) (pa_cons (pe_op op_fdiv (pe_dget hu (pv 0) pe_str (fun _ _ => rfl)) (pv 1)) pa_nil)))
            (pg_tup rfl (pgs_cons (pg_name (i := 5) scDraw.nd rfl (.inl rfl)) (pgs_cons (pg_sub (pv 0) pe_str (set_dict hu)) pgs_nil))))
      (pss_one (ps_ret (pv 5)))), ?_⟩
    have m1' : m < 1073741824 := m1
    obtain ⟨cells, p, l, ht, hc, c0, c63, hp, l0⟩ := T.ex
    refine ⟨fun σ' H' => ∃ y2 y3 y4, σ' = [some (.ref t), some (.int m), y2, y3, y4, none] ∧ Kp t H H' ∧ Tape H' t c (n + 1), ?_, ?_⟩
    · refine ⟨.ref t, rfl, t, .int l, rfl, g_left ht, .int m, rfl, l, m, rfl, rfl, _, rfl, ite2 (fun e => ?_) (fun e => ?_)⟩
      · refine ⟨.ref t, rfl, t, .int p, rfl, g_place ht, .ref t, rfl, t, .ref c, rfl, g_cells ht, c, _, rfl, .inl (SqL.of hc), _, _, rfl, ?_⟩
        have lp : 0 < (cells.map V.int).length := by
          rw [List.length_map]
          exact c0
        have jl : p % (cells.map V.int).length < cells.length := by
          have := Nat.mod_lt p lp
          rw [List.length_map] at this ⊢
          exact this
        have ga : (cells.map V.int)[p % (cells.map V.int).length]? = some (.int cells[p % (cells.map V.int).length]) := by
          rw [List.getElem?_map, List.getElem?_eq_getElem jl]
          rfl
        generalize cells[p % (cells.map V.int).length] = z at ga
        refine ⟨.ref t, rfl, t, .ref c, rfl, g_cells ht, _, rfl, _, rfl, (p : Int), ((cells.map V.int).length : Int), rfl, rfl, by omega, c, _, _, .int z, rfl, rfl, SqL.of hc, at_of (j := p % (cells.map V.int).length) (by rw [Int.natCast_emod]) ga, .int p, rfl, (p : Int), 1, rfl, rfl, by show 2 ≤ sizeLine; decide, fun q hq => ?_⟩
        have s1 : Same H (upd H q (.tup [.int z, .int ((p : Int) + 1)])) := same_upd hq
        have ht1 := s1 _ _ ht
        have hc1 := s1 _ _ hc
        have nct : c ≠ t := ne_of hc ht (by intro z; cases z)
        refine ⟨q, _, rfl, SqT.of upd_same, rfl, _, _, rfl, _, _, rfl, .ref t, rfl, t, _, rfl, p_place ((p : Int) + 1) ht1, rfl, ?_⟩
        have hn' : n < 1099511627776 := hn
        have zm0 : 0 ≤ z % 2147483647 := Int.emod_nonneg _ (by decide)
        have zm1 : z % 2147483647 < 2147483647 := Int.emod_lt_of_pos _ (by decide)
        have b0 : (z % 2147483647 + 69621 * (p : Int) + 48271).natAbs < 2 ^ 64 := by omega
        refine ⟨.int z, rfl, z, 2147483647, rfl, rfl, (by show (0 : Int) < 2147483647; decide), .int p, rfl, 69621, (p : Int), rfl, rfl, .inl ⟨by decide, by decide⟩, _, _, rfl, rfl, _, 48271, rfl, rfl, _, 17, rfl, rfl, ⟨by decide, by decide, b0⟩, 10, 50, rfl, rfl, ⟨by decide, by decide, by decide⟩, _, 151, rfl, rfl, _, _, rfl, rfl, ?_, ?_⟩
        · exact (by decide +kernel : (0 : Int) < 10 ^ (50 : Int).toNat + 151)
        have ht2 : (upd (upd H q (.tup [.int z, .int ((p : Int) + 1)])) t (.dK (tpd c ((p : Int) + 1) l))) t = some (.dK (tpd c ((p : Int) + 1) l)) := upd_same
        refine ⟨.ref t, rfl, t, _, rfl, p_left ((z % 2147483647 + 69621 * (p : Int) + 48271) ^ (17 : Int).toNat % (10 ^ (50 : Int).toNat + 151)) ht2, ?_⟩
        have x0 : 0 ≤ (z % 2147483647 + 69621 * (p : Int) + 48271) ^ (17 : Int).toNat % (10 ^ (50 : Int).toNat + 151) := Int.emod_nonneg _ (by decide +kernel)
        generalize (z % 2147483647 + 69621 * (p : Int) + 48271) ^ (17 : Int).toNat % (10 ^ (50 : Int).toNat + 151) = x17 at x0 ⊢
        have k3 : Kp t H (upd (upd (upd H q (.tup [.int z, .int ((p : Int) + 1)])) t (.dK (tpd c ((p : Int) + 1) l))) t (.dK (tpd c ((p : Int) + 1) x17))) := ((Kp.of ht s1).trans (kp_put ht1)).trans (kp_put ht2)
        have hc3 := k3.at hc (fun _ z => by cases z)
        refine ⟨.int z, rfl, 10, 18, rfl, rfl, ⟨by decide, by decide, by decide⟩, z, _, rfl, rfl, _, rfl, ite2 (fun e2 => ?_) (fun e2 => ?_)⟩
        · refine ⟨.int p, rfl, _, rfl, _, _, rfl, rfl, _, rfl, ite2 (fun e3 => ?_) (fun e3 => ?_)⟩
          · have hz : (0 : Int) ≤ z - 10 ^ (18 : Int).toNat := by
              have e4 : (10 : Int) ^ (18 : Int).toNat ≤ z := of_decide_eq_true e2
              omega
            refine ⟨.int z, rfl, 10, 18, rfl, rfl, ⟨by decide, by decide, by decide⟩, z, _, rfl, rfl, .ref t, rfl, t, _, rfl, p_left (z - 10 ^ (18 : Int).toNat) upd_same, ?_⟩
            exact ⟨_, _, _, rfl, k3.trans (kp_put upd_same), tape_put (p := p + 1) upd_same hc3 c0 c63 (by omega) hz⟩
          · exact ⟨_, _, _, rfl, k3, ⟨cells, p + 1, x17, upd_same, hc3, c0, c63, by omega, x0⟩⟩
        · exact ⟨_, _, _, rfl, k3, ⟨cells, p + 1, x17, upd_same, hc3, c0, c63, by omega, x0⟩⟩
      · exact ⟨none, none, none, rfl, Kp.refl T, T.mono (Nat.le_succ n)⟩
    · rintro σ' H' ⟨y2, y3, y4, rfl, k1, T1⟩
      obtain ⟨cells, p, l, ht, hc, c0, c63, hp, l0⟩ := T1.ex
      refine ⟨.ref t, rfl, t, .int l, rfl, g_left ht, .int m, rfl, l, m, rfl, rfl, m0, .ref t, rfl, t, .int l, rfl, g_left ht, .int m, rfl, l, m, rfl, rfl, ⟨m0, m1⟩, by show 2 ≤ sizeLine; decide, fun q hq => ?_⟩
      have s1 : Same H' (upd H' q (.tup [.int (l % m), .int (l / m)])) := same_upd hq
      have ht1 := s1 _ _ ht
      refine ⟨q, _, rfl, SqT.of upd_same, rfl, _, _, rfl, _, _, rfl, .ref t, rfl, t, _, rfl, p_left (l / m) ht1, rfl, ?_⟩
      refine ⟨_, rfl, k _ _ ((k1.trans (T1.kp s1)).trans (kp_put ht1)) (tape_put ht1 (s1 _ _ hc) c0 c63 hp (Int.ediv_nonneg l0 (by omega))) (Int.emod_nonneg _ (by omega)) (Int.emod_lt_of_pos _ m0)⟩
theorem at_cp {α : Type} {xs : List α} {z : Int} {j : Nat} {v : α} (e : z = (j : Int)) (h : xs[j]? = some v) : atI xs z = some v := by
  rw [e]
  exact atI_nat h
theorem scPick : FnScope ["_law_tape", "_law_items"] ["_law_tape", "_law_items"] (defScope sPick) := ⟨rfl, rfl, rfl, by decide +kernel, rfl, by decide +kernel, by decide +kernel⟩
theorem ok_pick (D : Df K mg "_law_pick" sPick ["_law_tape", "_law_items"]) (Dd : Df K mg "_law_draw" sDraw ["_law_tape", "_law_many"]) (ml : mg "len" = none) : FnOk P w K mg base CX0 2 D.f D.fd ["_law_tape", "_law_items"] (spPick K) := by
  have Gd : FnOk P w K mg base CX0 1 Dd.f Dd.fd ["_law_tape", "_law_many"] spDraw := ok_draw Dd ml
  refine D.F.ok scPick (fun vs H Q E h => ?_) (fun cdv A outer s H vs Q E hr h => ?_)
  · obtain ⟨t, c, n, x, rfl, _⟩ := h
    rfl
  · obtain ⟨t, c, n, x, rfl, T, hn, h⟩ := h
    rcases h with ⟨a, xs, rfl, hx, ne, hl, k⟩ | ⟨z, rfl, ne, hl, k⟩
    · refine ⟨_, pss_one (ps_ret (pe_ix ix_list (pv 1) (pe_call Gd hr (by rfl) Dd.g Dd.F.kp Dd.b .nil pass0 (pa_cons (pv 0) (pa_cons (pe_callB call_len_seq (by rfl) ml PySem.boot_len (pa_cons (pv 1) pa_nil)) pa_nil))) (fun _ _ => rfl))), ?_⟩
      have l0 : 0 < xs.length := List.length_pos_iff.mpr ne
      refine ⟨.ref a, rfl, .ref t, rfl, .ref a, rfl, a, xs, rfl, .inl hx, t, c, _, n, rfl, T, hn, by omega, by omega, fun H' r k1 T1 r0 r1 => ?_⟩
      have rl : r.toNat < xs.length := by omega
      refine ⟨a, xs, r, xs[r.toNat], rfl, rfl, k1.lst hx, at_of (j := r.toNat) (by omega) (List.getElem?_eq_getElem rl), k H' _ k1 T1 (List.getElem_mem rl)⟩
    · refine ⟨_, pss_one (ps_ret (pe_ix ix_str (pv 1) (pe_call Gd hr (by rfl) Dd.g Dd.F.kp Dd.b .nil pass0 (pa_cons (pv 0) (pa_cons (pe_callB call_len_str (by rfl) ml PySem.boot_len (pa_cons (pv 1) pa_nil)) pa_nil))) (fun _ _ => rfl))), ?_⟩
      have zl : z.cps.toList.length = z.length := Array.length_toList
      refine ⟨.str z, rfl, .ref t, rfl, .str z, rfl, z, rfl, ?_, t, c, _, n, rfl, T, hn, by omega, by omega, fun H' r k1 T1 r0 r1 => ?_⟩
      · rw [sizeLine_eq]; omega
      have rl : r.toNat < z.cps.toList.length := by omega
      refine ⟨z, r, z.cps.toList[r.toNat], rfl, rfl, ?_, at_cp (by omega) (List.getElem?_eq_getElem rl), k H' _ k1 T1 (List.getElem_mem rl)⟩
      rw [sizeLine_eq]
      omega
end
end DW
namespace DW
open PySem PySem.Spec PyProof.Rows L2 TL
set_option autoImplicit false
/-! ### texts as lists of codes -/
def one (c : Nat) : Str := ⟨#[c]⟩
theorem tl_one (c : Nat) : tl (one c) = [c] := rfl
theorem tl_inj {x y : Str} (h : tl x = tl y) : x = y := by
  obtain ⟨⟨a⟩⟩ := x
  obtain ⟨⟨b⟩⟩ := y
  have e : a = b := h
  rw [e]
theorem joinL_nil : ∀ l : List (List Nat), joinL [] l = l.flatten
  | [] => rfl
  | [p] => by simp [joinL]
  | p :: q :: r => by
    show p ++ ([] ++ joinL [] (q :: r)) = (p :: q :: r).flatten
    rw [joinL_nil (q :: r)]
    simp
theorem tl_cat (ys : List Str) : tl (Txt.join "" ys) = (ys.map tl).flatten := by
  have e : tl (Str.join "" ys) = joinL (tl "") (ys.map tl) := tl_join "" ys
  rw [join_eq, e, show tl "" = [] from rfl, joinL_nil]
theorem flat_ones (cs : List Nat) : ((cs.map one).map tl).flatten = cs := by
  induction cs with
  | nil => rfl
  | cons c r ih =>
    show [c] ++ ((r.map one).map tl).flatten = c :: r
    rw [ih]
    rfl
theorem lt_ones (x p : Nat) : ltCps (tl (one x)) (tl (one p)) = decide (x < p) := by
  simp [one, ltCps]
theorem sorted_ones : ∀ ys : List Str, (∀ y ∈ ys, ∃ c, y = one c) → ys.Nodup → sortedS ys = true → ∃ cs : List Nat, ys = cs.map one ∧ cs.Pairwise (· < ·)
  | [], _, _, _ => ⟨[], rfl, List.Pairwise.nil⟩
  | [y], h, _, _ => by
    obtain ⟨c, rfl⟩ := h y List.mem_cons_self
    exact ⟨[c], rfl, List.pairwise_singleton _ _⟩
  | y :: z :: r, h, nd, so => by
    obtain ⟨hy, nd'⟩ := List.nodup_cons.mp nd
    obtain ⟨c, rfl⟩ := h y List.mem_cons_self
    obtain ⟨d, rfl⟩ := h z (List.mem_cons_of_mem _ List.mem_cons_self)
    have so' : (!ltCps (tl (one d)) (tl (one c)) && risingS (one d) r) = true := so
    rw [Bool.and_eq_true] at so'
    obtain ⟨cs, e, pw⟩ := sorted_ones (one d :: r) (fun u hu => h u (List.mem_cons_of_mem _ hu)) nd' so'.2
    have lt : c < d := by
      have q := so'.1
      rw [lt_ones] at q
      have n1 : ¬ d < c := by simpa using q
      have n2 : c ≠ d := fun z => hy (by rw [z]; exact List.mem_cons_self)
      omega
    cases cs with
    | nil => cases e
    | cons d' cs =>
      have e1 : one d = one d' := (List.cons.inj e).1
      have e2 : d = d' := by
        have q := congrArg tl e1
        exact (List.cons.inj q).1
      subst e2
      refine ⟨c :: d :: cs, by rw [List.map_cons, ← e], List.pairwise_cons.mpr ⟨fun u hu => ?_, pw⟩⟩
      rcases List.mem_cons.mp hu with q | q
      · omega
      · have := (List.pairwise_cons.mp pw).1 u q
        omega
theorem sum_ones : ∀ ys : List Str, (∀ y ∈ ys, ∃ c, y = one c) → (ys.map (·.length)).sum = ys.length
  | [], _ => rfl
  | y :: r, h => by
    obtain ⟨c, rfl⟩ := h y List.mem_cons_self
    rw [List.map_cons, List.sum_cons, sum_ones r fun u hu => h u (List.mem_cons_of_mem _ hu), List.length_cons]
    show 1 + r.length = r.length + 1
    omega
theorem yes {σ : L2.St} {H : Hp} {F G : Hp → Prop} (h : F H) : tYes σ H (fun b H3 => if b = true then F H3 else G H3) := by
  show (if true = true then F H else G H)
  rw [if_pos rfl]
  exact h
/-- an alphabet -/
def Alph (z : Str) : Prop := (tl z).Pairwise (· < ·) ∧ 1 ≤ (tl z).length ∧ (tl z).length ≤ 3 ∧ ∀ c ∈ tl z, 97 ≤ c ∧ c ≤ 122
def abc : Str := "abcdefghijklmnopqrstuvwxyz"
theorem abc_low : ∀ c ∈ tl abc, 97 ≤ c ∧ c ≤ 122 := by decide +kernel
theorem abc_len : (tl abc).length = 26 := by decide +kernel
theorem al1 : Alph "ab" := by unfold Alph; decide +kernel
theorem al2 : Alph "abc" := by unfold Alph; decide +kernel
theorem al3 : Alph "a" := by unfold Alph; decide +kernel
theorem al4 : Alph "bx" := by unfold Alph; decide +kernel
theorem al5 : Alph "cmz" := by unfold Alph; decide +kernel
theorem alph_of {ds : List Nat} {ls ys : List Str} (h1 : 1 ≤ ds.length) (h3 : ds.length ≤ 3) (low : ∀ c ∈ ds, 97 ≤ c ∧ c ≤ 122) (nd : ls.Nodup) (mem : ∀ k, k ∈ ls ↔ k ∈ ds.map one) (le : ls.length ≤ (ds.map one).length)
    (pm : ys.Perm ls) (so : sortedS ys = true) : Alph (Txt.join "" ys) := by
  have hm : ∀ y ∈ ys, y ∈ ds.map one := fun y hy => (mem y).mp (pm.mem_iff.mp hy)
  obtain ⟨cs, rfl, pw⟩ := sorted_ones ys (fun y hy => by
    obtain ⟨c, _, e⟩ := List.mem_map.mp (hm y hy)
    exact ⟨c, e.symm⟩) (pm.nodup_iff.mpr nd) so
  have e : tl (Txt.join "" (cs.map one)) = cs := by rw [tl_cat, flat_ones]
  have hl : cs.length = ls.length := by
    have q := pm.length_eq
    rw [List.length_map] at q
    exact q
  rw [List.length_map] at le
  unfold Alph
  rw [e]
  refine ⟨pw, ?_, by omega, fun c hc => ?_⟩
  · cases ds with
    | nil => cases h1
    | cons d r =>
      have q : one d ∈ ls := (mem _).mpr List.mem_cons_self
      have q2 : one d ∈ cs.map one := pm.mem_iff.mpr q
      have := List.length_pos_of_mem q2
      rw [List.length_map] at this
      omega
  · obtain ⟨d, hd, e⟩ := List.mem_map.mp (hm (one c) (List.mem_map.mpr ⟨c, hc, rfl⟩))
    have e2 : d = c := by
      have q := congrArg tl e
      exact (List.cons.inj q).1
    rw [← e2]
    exact low d hd
/-! ### what the module's names hold -/
structure Bl (mg : Str → Option Value) : Prop where
  len : mg "len" = none
  range : mg "range" = none
  sorted : mg "sorted" = none
  set : mg "set" = none
def spAlpha : Sp := fun vs H Q _ => ∃ (t c : Addr) (n : Nat), vs = [.ref t] ∧ Tape H t c n ∧ n + 10 < 2 ^ 40 ∧ ∀ H' z, Kp t H H' → Tape H' t c (n + 10) → Alph z → Q (.str z) H'
abbrev DfDraw (K : PySem.W.Frag) (mg : Str → Option Value) := Df K mg "_law_draw" sDraw ["_law_tape", "_law_many"]
abbrev DfPick (K : PySem.W.Frag) (mg : Str → Option Value) := Df K mg "_law_pick" sPick ["_law_tape", "_law_items"]
end DW
namespace DW
open PySem PySem.Spec PyProof.Rows L2 TL
set_option autoImplicit false
section
variable {P : Program} {w : World} {K : PySem.W.Frag} {mg : Str → Option Value} {base : Heap}
theorem scAlpha : FnScope ["_law_tape", "_law_letters", "_law_drawn", "_law_k"] ["_law_tape"] (defScope sAlpha) := ⟨rfl, rfl, rfl, by decide +kernel, rfl, by decide +kernel, by decide +kernel⟩
theorem ok_alpha (D : Df K mg "_law_alphabet" sAlpha ["_law_tape"]) (Dd : DfDraw K mg) (Dp : DfPick K mg) (B : Bl mg) : FnOk P w K mg base CX0 3 D.f D.fd ["_law_tape"] spAlpha := by
  have Gd : FnOk P w K mg base CX0 1 Dd.f Dd.fd ["_law_tape", "_law_many"] spDraw := ok_draw Dd B.len
  have Gp : FnOk P w K mg base CX0 2 Dp.f Dp.fd ["_law_tape", "_law_items"] (spPick K) := ok_pick Dp Dd B.len
  refine D.F.ok scAlpha (fun vs H Q E h => ?_) (fun cdv A outer s H vs Q E hr h => ?_)
  · obtain ⟨t, c, n, rfl, _⟩ := h
    rfl
  · obtain ⟨t, c, n, rfl, T, hn, k⟩ := h
    have hr1 : Room 1 _ := hr.mono (by decide)
    refine ⟨_, pss_cons (ps_set (i := 1) scAlpha.nd rfl (Or.inr rfl) pe_str)
      (pss_cons (ps_setLc (i := 2) (own := [("_law_k", 3)]) (g := gName 3) (tt := tYes) rfl scAlpha.nd rfl rfl (sw_true rfl rfl rfl (by decide +kernel))
        (pi_range1 rfl B.range (pa_cons (pe_op op_add pe_int (pe_call Gd hr1 (by rfl) Dd.g Dd.F.kp Dd.b .nil pass0 (pa_cons (pv 0) (pa_cons pe_int pa_nil)))) pa_nil))
        (blkOk_by (N := ["_law_tape", "_law_letters", "_law_drawn", "_law_k"]) (sc := defScope sAlpha) (by decide +kernel)) (fun _ _ _ _ _ => pg_name (i := 3) scAlpha.nd rfl (Or.inl rfl)) (fun _ _ _ _ _ => pts_nil)
        (fun _ _ _ _ _ => pe_ix ix_str (pv 1) (pe_call Gd hr1 (by rfl) Dd.g Dd.F.kp Dd.b .nil pass0 (pa_cons (pv 0) (pa_cons pe_int pa_nil))) (fun _ _ => rfl)))
      (pss_one (ps_ret (pe_call Gp hr (by rfl) Dp.g Dp.F.kp Dp.b .nil pass0 (pa_cons (pv 0) (pa_cons
        (pe_op op_cat (pe_lst (pa_cons pe_str (pa_cons pe_str (pa_cons pe_str (pa_cons pe_str (pa_cons pe_str pa_nil))))))
          (pe_op op_rep (pe_lst (pa_cons (pe_join pe_str (pe_callB (TX.cr_sortTx rfl) (by rfl) B.sorted (by decide +kernel) (pa_cons (pe_callTy (TX.cr_setL rfl) (by rfl) B.set (by decide +kernel) (pa_cons (pv 2) pa_nil)) pa_nil))) pa_nil)) pe_int)) pa_nil)))))), ?_⟩
    refine ⟨.ref t, rfl, t, c, 3, n, rfl, T, by omega, by decide, by decide, fun H1 r k1 T1 r0 r1 => ?_⟩
    refine ⟨1, r, rfl, rfl, 1 + r, rfl, by omega, by omega, fun D hD => ?_⟩
    have D1 := T1.ne1 hD
    have D2 := T1.ne2 hD
    have D0 := k1.gone hD
    refine lc_range (lo := 0) (n := (1 + r).toNat) (fun i H' => ∃ ds : List Nat, ds.length = i ∧ (∀ c ∈ ds, 97 ≤ c ∧ c ≤ 122) ∧ H' D = some (.lst ((ds.map one).map V.str)) ∧ Kp t H H' ∧ Tape H' t c (n + 1 + i)) ?_ ?_ ?_
    · exact ⟨[], rfl, fun c hc => (nomatch hc), upd_same, k1.put D0 D1, T1.upd D1 D2⟩
    · rintro i G hi ⟨ds, dl, low, gD, kG, TG⟩
      refine ⟨rfl, yes ?_⟩
      refine ⟨.str abc, rfl, .ref t, rfl, t, c, 26, n + 1 + i, rfl, TG, by omega, by decide, by decide, fun H4 q k4 T4 q0 q1 => ?_⟩
      have ql : q.toNat < (tl abc).length := by
        rw [abc_len]
        omega
      have gD4 := k4.at gD (fun _ z => by cases z)
      refine ⟨abc, q, (tl abc)[q.toNat], rfl, rfl, by decide +kernel, at_cp (j := q.toNat) (by omega) (List.getElem?_eq_getElem ql), _, gD4, ?_, ?_⟩
      · rw [List.length_map, List.length_map, dl, sizeLine_eq]
        omega
      · refine ⟨ds ++ [(tl abc)[q.toNat]], by rw [List.length_append, dl]; rfl, fun c hc => ?_, ?_, ?_, ?_⟩
        · rcases List.mem_append.mp hc with z | z
          · exact low c z
          · rw [List.mem_singleton.mp z]
            exact abc_low _ (List.getElem_mem ql)
        · rw [upd_same, List.map_append, List.map_append]
          rfl
        · exact (kG.trans k4).put D0 D1
        · exact T4.upd D1 D2
    · rintro G ⟨ds, dl, low, gD, kG, TG⟩
      refine ⟨.ref t, rfl, by show 5 ≤ sizeLine; decide, fun l1 e1 => ?_⟩
      have s1 := same_upd (o := .lst [V.str "ab", V.str "abc", V.str "a", V.str "bx", V.str "cmz"]) e1
      refine ⟨⟨_, rfl⟩, .ref D, rfl, D, ds.map one, rfl, SqL.of (s1 _ _ gD), ?_, fun a ls ea nd mem le => ?_⟩
      · rw [List.length_map, dl]
        unfold scanBound
        omega
      have s2 := same_upd (o := TX.SetTx P w a ls) ea
      refine ⟨a, ls, rfl, upd_same, ?_, fun ys p pm so ep => ?_⟩
      · rw [List.length_map] at le
        omega
      have al := alph_of (by omega) (by omega) low nd mem le pm so
      have s3 := same_upd (o := .lst (ys.map V.str)) ep
      refine ⟨"", p, ys, rfl, rfl, .inl (SqL.of upd_same), ?_, by show 1 ≤ sizeLine; decide, fun l2 e2 => ?_⟩
      · rw [sum_ones ys fun y hy => ?_]
        · rw [pm.length_eq]
          rw [List.length_map] at le
          show ls.length + ls.length * 0 ≤ 16777216
          omega
        · obtain ⟨u, _, e⟩ := List.mem_map.mp ((mem y).mp (pm.mem_iff.mp hy))
          exact ⟨u, e.symm⟩
      have s4 := same_upd (o := .lst [V.str (Txt.join "" ys)]) e2
      refine ⟨l2, 5, _, rfl, rfl, upd_same, by decide, by decide, by show 1 * 5 ≤ sizeLine; decide, fun l3 e3 => ?_⟩
      have s5 := same_upd (o := .lst (List.replicate (5 : Int).toNat [V.str (Txt.join "" ys)]).flatten) e3
      refine ⟨l1, l3, _, _, rfl, rfl, s5 _ _ (s4 _ _ (s3 _ _ (s2 _ _ upd_same))), upd_same, by show 5 + 5 ≤ sizeLine; decide, fun l4 e4 => ?_⟩
      have s6 := same_upd (o := .lst ([V.str "ab", V.str "abc", V.str "a", V.str "bx", V.str "cmz"] ++ (List.replicate (5 : Int).toNat [V.str (Txt.join "" ys)]).flatten)) e4
      have sa := ((((s1.trans s2).trans s3).trans s4).trans s5).trans s6
      refine ⟨t, c, n + 1 + (1 + r).toNat, .ref l4, rfl, TG.same sa, by omega, .inl ⟨l4, _, rfl, SqL.of upd_same, by simp, by show 10 < 2 ^ 30; decide, fun H' y k' T' hy => ?_⟩⟩
      have hy' : ∃ z, y = V.str z ∧ Alph z := by
        rcases List.mem_append.mp hy with q | q
        · simp only [List.mem_cons, List.not_mem_nil, or_false] at q
          rcases q with q | q | q | q | q
          · exact ⟨_, q, al1⟩
          · exact ⟨_, q, al2⟩
          · exact ⟨_, q, al3⟩
          · exact ⟨_, q, al4⟩
          · exact ⟨_, q, al5⟩
        · obtain ⟨u, hu, hy⟩ := List.mem_flatten.mp q
          rw [List.eq_of_mem_replicate hu] at hy
          exact ⟨_, List.mem_singleton.mp hy, al⟩
      obtain ⟨z, rfl, az⟩ := hy'
      exact k H' z ((kG.trans (TG.kp sa)).trans k') (T'.mono (by omega)) az
end
end DW
namespace DW
open PySem PySem.Spec PyProof.Rows L2 TL
set_option autoImplicit false
/-! ### text * int, repr(text) -/
theorem foldl_app : ∀ (l : List (Array Nat)) (acc : Array Nat), (l.foldl (· ++ ·) acc).toList = acc.toList ++ (l.map Array.toList).flatten
  | [], acc => by simp
  | a :: r, acc => by
    rw [List.foldl_cons, foldl_app r, Array.toList_append, List.map_cons, List.flatten_cons, List.append_assoc]
theorem tl_mul (z : Str) (k : Int) : tl (Txt.mul z k) = (List.replicate k.toNat (tl z)).flatten := by
  unfold Txt.mul
  by_cases h : k < 1
  · rw [if_pos h, show k.toNat = 0 by omega]
    rfl
  · rw [if_neg h]
    by_cases h2 : (k == 1 || z.length == 0) = true
    · rw [if_pos h2]
      rw [Bool.or_eq_true] at h2
      rcases h2 with e | e
      · rw [eq_of_beq e]
        simp
      · have e0 : tl z = [] := List.length_eq_zero_iff.mp (by rw [Array.length_toList]; exact eq_of_beq e)
        rw [e0]
        simp
    · rw [if_neg h2]
      show ((List.replicate k.toNat z.cps).foldl (· ++ ·) #[]).toList = _
      rw [foldl_app, List.map_replicate]
      simp
section
variable {X : Cx}
def rRepS : R2 := fun x y H Q => ∃ (z : Str) (k : Int), x = .str z ∧ y = .int k ∧ 0 ≤ k ∧ k ≤ 1000 ∧ z.length ≤ 1000 ∧ ∀ r : Str, tl r = (List.replicate k.toNat (tl z)).flatten → Q (.str r) H
theorem op_repS : OpR X (binaryOp .Mult) rRepS := by
  intro pins s σ H x y v u Q I rx ry h
  obtain ⟨z, k, rfl, rfl, k0, k1, zl, q⟩ := h
  obtain ⟨t, rfl⟩ := rx
  obtain ⟨t2, rfl⟩ := ry
  have pr : z.length * k.toNat ≤ 1000 * 1000 := Nat.mul_le_mul zl (by omega)
  refine SB.mul ⟨?_, fun h1 _ h3 => ?_, fun _ _ => ?_⟩ fun t' tk => ⟨.str (Txt.mul z k), H, I.tok _, ⟨_, rfl⟩, q _ (tl_mul z k)⟩
  · have a : ¬ k < -(2 ^ 63) := by omega
    have b : ¬ k ≥ 2 ^ 63 := by omega
    simp [a, b]
    omega
  · have e : (z.length : Int) ≤ (2 ^ 63 - 1) / k := by
      rw [Int.le_ediv_iff_mul_le (by omega)]
      have : ((z.length * k.toNat : Nat) : Int) ≤ 1000 * 1000 := by exact_mod_cast pr
      rw [Int.natCast_mul, Int.toNat_of_nonneg k0] at this
      omega
    omega
  · unfold Builtin.Str.tooLong
    rw [sizeLine_eq]
    simp
    omega
theorem cr_reprS : CallR X (.builtin "repr") (fun xs H Q => ∃ y : Str, xs = [.str y] ∧ (reprText y).length ≤ sizeLine ∧ Q (.str (reprText y)) H) := by
  intro pins s σ H xs us Q I r h
  obtain ⟨y, rfl, hz, q⟩ := h
  obtain ⟨u, rfl, t, rfl⟩ := vals1 r
  exact PySem.P.repr_of_str ⟨.str _, H, I.tok _, ⟨_, rfl⟩, q⟩ hz
end
theorem rc_le : ∀ c, c < 128 → (Builtin.Str.reprChar 34 c).length ≤ 4 ∧ (Builtin.Str.reprChar 39 c).length ≤ 4 := by decide +kernel
theorem rq (x : Str) : reprQuote x = 34 ∨ reprQuote x = 39 := by
  unfold reprQuote
  split
  · exact .inl rfl
  · exact .inr rfl
theorem repr_fold (q : Nat) (hq : q = 34 ∨ q = 39) : ∀ (l : List Nat) (n : Nat), (∀ c ∈ l, c < 128) → l.foldl (fun n c => n + (Builtin.Str.reprChar q c).length) n ≤ n + 4 * l.length
  | [], n, _ => by simp
  | c :: r, n, h => by
    have h1 := rc_le c (h c List.mem_cons_self)
    have h2 : (Builtin.Str.reprChar q c).length ≤ 4 := by
      rcases hq with e | e
      · rw [e]; exact h1.1
      · rw [e]; exact h1.2
    have ih := repr_fold q hq r (n + (Builtin.Str.reprChar q c).length) fun d hd => h d (List.mem_cons_of_mem _ hd)
    rw [List.foldl_cons, List.length_cons]
    omega
theorem repr_le {x : Str} (h : ∀ c ∈ tl x, c < 128) : (reprText x).length ≤ 2 + 4 * (tl x).length := by
  rw [← reprLen_eq, ← Array.foldl_toList]
  exact repr_fold _ (rq x) _ _ h
/-! ### factors, products -/
abbrev Fc := Bool × Str
def kd (b : Bool) : Str := if b then "star" else "opt"
def IsF (K : PySem.W.Frag) (H : Hp) (v : V) (f : Fc) : Prop := ∃ a, v = .ref a ∧ SqT K H a [.str (kd f.1), .str f.2]
def FOk (z : Str) (f : Fc) : Prop := tl f.2 ≠ [] ∧ (tl f.2).Sublist (tl z) ∧ (f.1 = false → (tl f.2).length = 1)
inductive IsFs (K : PySem.W.Frag) (H : Hp) : List V → List Fc → Prop where
  | nil : IsFs K H [] []
  | cons {v : V} {f : Fc} {vs : List V} {fs : List Fc} (h : IsF K H v f) (r : IsFs K H vs fs) : IsFs K H (v :: vs) (f :: fs)
theorem IsFs.snoc {K : PySem.W.Frag} {H : Hp} {v : V} {f : Fc} : ∀ {vs : List V} {fs : List Fc}, IsFs K H vs fs → IsF K H v f → IsFs K H (vs ++ [v]) (fs ++ [f])
  | _, _, .nil, h => .cons h .nil
  | _, _, .cons a r, h => .cons a (r.snoc h)
theorem IsFs.len {K : PySem.W.Frag} {H : Hp} : ∀ {vs : List V} {fs : List Fc}, IsFs K H vs fs → vs.length = fs.length
  | _, _, .nil => rfl
  | _, _, .cons _ r => by rw [List.length_cons, List.length_cons, r.len]
theorem IsFs.get {K : PySem.W.Frag} {H : Hp} : ∀ {vs : List V} {fs : List Fc}, IsFs K H vs fs → ∀ (i : Nat) (v : V), vs[i]? = some v → ∃ f, fs[i]? = some f ∧ IsF K H v f
  | _, _, .nil, i, v, h => by simp at h
  | _, _, .cons a r, 0, v, h => by
    have e := Option.some.inj h
    subst e
    exact ⟨_, rfl, a⟩
  | _, _, .cons a r, i + 1, v, h => r.get i v h
theorem IsF.mono {K : PySem.W.Frag} {H H' : Hp} {v : V} {f : Fc} (h : IsF K H v f) (m : ∀ b xs, SqT K H b xs → SqT K H' b xs) : IsF K H' v f := by
  obtain ⟨a, e, q⟩ := h
  exact ⟨a, e, m _ _ q⟩
theorem IsFs.mono {K : PySem.W.Frag} {H H' : Hp} (m : ∀ b xs, SqT K H b xs → SqT K H' b xs) : ∀ {vs : List V} {fs : List Fc}, IsFs K H vs fs → IsFs K H' vs fs
  | _, _, .nil => .nil
  | _, _, .cons a r => .cons (a.mono m) (r.mono m)
theorem same_tup {H H' : Hp} {K : PySem.W.Frag} (s : Same H H') (b : Addr) (xs : List V) (h : SqT K H b xs) : SqT K H' b xs := by
  rcases h with (h | ⟨o, h⟩) | h
  · exact .inl (.inl (s _ _ h))
  · exact .inl (.inr ⟨o, s _ _ h⟩)
  · exact .inr h
theorem kp_tup {t : Addr} {H H' : Hp} {K : PySem.W.Frag} (k : Kp t H H') (b : Addr) (xs : List V) (h : SqT K H b xs) : SqT K H' b xs := k.tup h
/-- a store at what is no tuple -/
theorem upd_tup {H : Hp} {D : Addr} {xs0 : List V} {o : HO} {K : PySem.W.Frag} (hD : H D = some (.lst xs0)) (b : Addr) (xs : List V) (h : SqT K H b xs) : SqT K (upd H D o) b xs := by
  rcases h with (h | ⟨u, h⟩) | h
  · exact .inl (.inl ((upd_ne (ne_of h hD (by intro z; cases z))).trans h))
  · exact .inl (.inr ⟨u, (upd_ne (ne_of h hD (by intro z; cases z))).trans h⟩)
  · exact .inr h
def IsP (K : PySem.W.Frag) (H : Hp) (v : V) (fs : List Fc) : Prop := ∃ a xs, v = .ref a ∧ SqT K H a xs ∧ IsFs K H xs fs
theorem IsP.mono {K : PySem.W.Frag} {H H' : Hp} {v : V} {fs : List Fc} (h : IsP K H v fs) (m : ∀ b xs, SqT K H b xs → SqT K H' b xs) : IsP K H' v fs := by
  obtain ⟨a, xs, e, q, r⟩ := h
  exact ⟨a, xs, e, m _ _ q, r.mono m⟩
def spFactor (K : PySem.W.Frag) : Sp := fun vs H Q _ => ∃ (t c : Addr) (n : Nat) (z : Str), vs = [.ref t, .str z] ∧ Tape H t c n ∧ n + 10 < 2 ^ 40 ∧ Alph z ∧ ∀ H' v f, Kp t H H' → Tape H' t c (n + 10) → IsF K H' v f → FOk z f → Q v H'
def spProduct (K : PySem.W.Frag) : Sp := fun vs H Q _ => ∃ (t c : Addr) (n : Nat) (z : Str) (m : Int), vs = [.ref t, .str z, .int m] ∧ Tape H t c n ∧ n + 1000 < 2 ^ 40 ∧ Alph z ∧ 0 ≤ m ∧ m ≤ 50 ∧
  ∀ H' v fs, Kp t H H' → Tape H' t c (n + 1000) → IsP K H' v fs → (∀ f ∈ fs, FOk z f) → (fs.length : Int) ≤ m → Q v H'
section
variable {P : Program} {w : World} {K : PySem.W.Frag} {mg : Str → Option Value} {base : Heap}
theorem scFactor : FnScope ["_law_tape", "_law_alphabet_here", "_law_letters", "_law_letter"] ["_law_tape", "_law_alphabet_here"] (defScope sFactor) := ⟨rfl, rfl, rfl, by decide +kernel, rfl, by decide +kernel, by decide +kernel⟩
theorem ok_factor (D : Df K mg "_law_factor" sFactor ["_law_tape", "_law_alphabet_here"]) (Dd : DfDraw K mg) (Dp : DfPick K mg) (B : Bl mg) : FnOk P w K mg base CX0 3 D.f D.fd ["_law_tape", "_law_alphabet_here"] (spFactor K) := by
  have Gd : FnOk P w K mg base CX0 1 Dd.f Dd.fd ["_law_tape", "_law_many"] spDraw := ok_draw Dd B.len
  have Gp : FnOk P w K mg base CX0 2 Dp.f Dp.fd ["_law_tape", "_law_items"] (spPick K) := ok_pick Dp Dd B.len
  refine D.F.ok scFactor (fun vs H Q E h => ?_) (fun cdv A outer s H vs Q E hr h => ?_)
  · obtain ⟨t, c, n, z, rfl, _⟩ := h
    rfl
  · obtain ⟨t, c, n, z, rfl, T, hn, al, k⟩ := h
    have hr1 : Room 1 _ := hr.mono (by decide)
    have zl : z.length = (tl z).length := (Array.length_toList).symm
    obtain ⟨pw, l1, l3, low⟩ := al
    refine ⟨_, pss_cons (ps_if (pt_cmpR op_gt (pe_call Gd hr1 (by rfl) Dd.g Dd.F.kp Dd.b .nil pass0 (pa_cons (pv 0) (pa_cons pe_int pa_nil))) pe_int (nomark _))
        (pss_one (ps_ret (pe_tup (pa_cons pe_str (pa_cons (pe_call Gp hr (by rfl) Dp.g Dp.F.kp Dp.b .nil pass0 (pa_cons (pv 0) (pa_cons (pv 1) pa_nil))) pa_nil))))) pss_nil)
      (pss_cons (ps_set (i := 2) scFactor.nd rfl (Or.inl rfl) (pe_join pe_str (pe_lc (own := [("_law_letter", 3)]) (g := gName 3) rfl scFactor.nd (pi_str (pv 1))
          (blkOk_by (N := ["_law_tape", "_law_alphabet_here", "_law_letters", "_law_letter"]) (sc := defScope sFactor) (by decide +kernel)) (fun _ _ _ _ _ => pg_name (i := 3) scFactor.nd rfl (Or.inl rfl))
          (fun _ _ _ _ _ => pts_one (pt_cmpR op_eq (pe_call Gd hr1 (by rfl) Dd.g Dd.F.kp Dd.b .nil pass0 (pa_cons (pv 0) (pa_cons pe_int pa_nil))) pe_int (nomark _))) (fun _ _ _ _ _ => pv 3))))
      (pss_one (ps_ret (pe_tup (pa_cons pe_str (pa_cons (pe_ifExp (pt_cmpR op_ne (pv 2) pe_str (nomark _)) (pv 2) (pe_call Gp hr (by rfl) Dp.g Dp.F.kp Dp.b .nil pass0 (pa_cons (pv 0) (pa_cons (pv 1) pa_nil)))) pa_nil)))))), ?_⟩
    refine ⟨.ref t, rfl, t, c, 3, n, rfl, T, by omega, by decide, by decide, fun H1 r k1 T1 r0 r1 => ?_⟩
    refine ⟨r, 0, rfl, rfl, _, rfl, ite2 (fun e => ?_) (fun e => ?_)⟩
    · refine ⟨.ref t, rfl, .str z, rfl, t, c, n + 1, .str z, rfl, T1, by omega, .inr ⟨z, rfl, by omega, by omega, fun H2 d k2 T2 hd => ?_⟩⟩
      refine ⟨by show 2 ≤ sizeLine; decide, fun p hp => ?_⟩
      have s3 := same_upd (o := .tup [.str "opt", .str ⟨#[d]⟩]) hp
      exact k _ _ (false, one d) ((k1.trans k2).trans (T2.kp s3)) ((T2.same s3).mono (by omega)) ⟨p, rfl, SqT.of upd_same⟩ ⟨by simp [one], by show [d].Sublist _; exact List.singleton_sublist.mpr hd, fun _ => rfl⟩
    · refine ⟨⟨_, rfl⟩, .str z, rfl, z, rfl, fun D hD => ?_⟩
      have D1 := T1.ne1 hD
      have D2 := T1.ne2 hD
      have D0 := k1.gone hD
      have zs : z.cps.size = (tl z).length := (Array.length_toList).symm
      refine lc_it walk_str (fun i H' => ∃ ds : List Nat, ds.Sublist ((tl z).take i) ∧ H' D = some (.lst ((ds.map one).map V.str)) ∧ Kp t H H' ∧ Tape H' t c (n + 1 + i)) ?_ (fun _ _ _ _ => trivial) ?_ ?_
      · exact ⟨[], List.nil_sublist _, upd_same, k1.put D0 D1, T1.upd D1 D2⟩
      · rintro i x G G' hi ⟨ds, sub, gD, kG, TG⟩ ⟨rfl, d, hd, rfl⟩
        have hd' : (tl z)[i]? = some d := by rw [Array.getElem?_toList]; exact hd
        have tk : (tl z).take (i + 1) = (tl z).take i ++ [d] := by rw [List.take_add_one, hd'] <;> rfl
        have dl : ds.length ≤ 3 := Nat.le_trans (Nat.le_trans sub.length_le (List.length_take_le' ..)) l3
        refine ⟨rfl, .ref t, rfl, t, c, 2, n + 1 + i, rfl, TG, by omega, by decide, by decide, fun H4 q k4 T4 q0 q1 => ?_⟩
        have gD4 := k4.at gD (fun _ z => by cases z)
        refine ⟨rfl, _, rfl, ite2 (fun e2 => ?_) (fun e2 => ?_)⟩
        · refine ⟨_, rfl, _, gD4, ?_, ds ++ [d], ?_, ?_, (kG.trans k4).put D0 D1, T4.upd D1 D2⟩
          · rw [List.length_map, List.length_map, sizeLine_eq]
            omega
          · rw [tk]
            exact sub.append (List.Sublist.refl _)
          · rw [upd_same, List.map_append, List.map_append]
            rfl
        · refine ⟨ds, ?_, gD4, kG.trans k4, T4⟩
          rw [tk]
          exact sub.trans (List.sublist_append_left _ _)
      · rintro G ⟨ds, sub, gD, kG, TG⟩
        have sub' : ds.Sublist (tl z) := sub.trans (List.take_sublist _ _)
        have dl : ds.length ≤ 3 := Nat.le_trans sub'.length_le l3
        refine ⟨"", D, ds.map one, rfl, rfl, .inl (SqL.of gD), ?_, ?_⟩
        · rw [sum_ones _ fun y hy => ?_, List.length_map]
          · show ds.length + ds.length * 0 ≤ 16777216
            omega
          · obtain ⟨u, _, e⟩ := List.mem_map.mp hy
            exact ⟨u, e.symm⟩
        have ej : tl (Txt.join "" (ds.map one)) = ds := by rw [tl_cat, flat_ones]
        refine ⟨.str (Txt.join "" (ds.map one)), rfl, rfl, _, rfl, ite2 (fun e2 => ?_) (fun e2 => ?_)⟩
        · refine ⟨_, rfl, by show 2 ≤ sizeLine; decide, fun p hp => ?_⟩
          have s3 := same_upd (o := .tup [.str "star", .str (Txt.join "" (ds.map one))]) hp
          refine k _ _ (true, Txt.join "" (ds.map one)) (kG.trans (TG.kp s3)) ((TG.same s3).mono (by omega)) ⟨p, rfl, SqT.of upd_same⟩ ⟨?_, by rw [ej]; exact sub', fun z => by cases z⟩
          intro z0
          have e3 : Txt.join "" (ds.map one) = ("" : Str) := tl_inj z0
          rw [e3] at e2
          exact absurd e2 (by decide +kernel)
        · refine ⟨.ref t, rfl, .str z, rfl, t, c, n + 1 + z.cps.size, .str z, rfl, TG, by omega, .inr ⟨z, rfl, by omega, by omega, fun H2 d k2 T2 hd => ?_⟩⟩
          refine ⟨by show 2 ≤ sizeLine; decide, fun p hp => ?_⟩
          have s3 := same_upd (o := .tup [.str "star", .str ⟨#[d]⟩]) hp
          exact k _ _ (true, one d) ((kG.trans k2).trans (T2.kp s3)) ((T2.same s3).mono (by omega)) ⟨p, rfl, SqT.of upd_same⟩ ⟨by simp [one], by show [d].Sublist _; exact List.singleton_sublist.mpr hd, fun z => by cases z⟩
theorem scProduct : FnScope ["_law_tape", "_law_alphabet_here", "_law_longest", "_law_k"] ["_law_tape", "_law_alphabet_here", "_law_longest"] (defScope sProduct) := ⟨rfl, rfl, rfl, by decide +kernel, rfl, by decide +kernel, by decide +kernel⟩
theorem ok_product (D : Df K mg "_law_product" sProduct ["_law_tape", "_law_alphabet_here", "_law_longest"]) (Df0 : Df K mg "_law_factor" sFactor ["_law_tape", "_law_alphabet_here"]) (Dd : DfDraw K mg) (Dp : DfPick K mg) (B : Bl mg) (mt : mg "tuple" = none) :
    FnOk P w K mg base CX0 4 D.f D.fd ["_law_tape", "_law_alphabet_here", "_law_longest"] (spProduct K) := by
  have Gd : FnOk P w K mg base CX0 1 Dd.f Dd.fd ["_law_tape", "_law_many"] spDraw := ok_draw Dd B.len
  have Gf : FnOk P w K mg base CX0 3 Df0.f Df0.fd ["_law_tape", "_law_alphabet_here"] (spFactor K) := ok_factor Df0 Dd Dp B
  refine D.F.ok scProduct (fun vs H Q E h => ?_) (fun cdv A outer s H vs Q E hr h => ?_)
  · obtain ⟨t, c, n, z, m, rfl, _⟩ := h
    rfl
  · obtain ⟨t, c, n, z, m, rfl, T, hn, al, m0, m1, k⟩ := h
    have hr1 : Room 1 _ := hr.mono (by decide)
    refine ⟨_, pss_one (ps_ret (pe_callTy call_tuple_of (by rfl) mt (by decide +kernel) (pa_cons (pe_lc (own := [("_law_k", 3)]) (g := gName 3) rfl scProduct.nd
        (pi_range1 rfl B.range (pa_cons (pe_call Gd hr1 (by rfl) Dd.g Dd.F.kp Dd.b .nil pass0 (pa_cons (pv 0) (pa_cons (pe_op op_add (pv 2) pe_int) pa_nil))) pa_nil))
        (blkOk_by (N := ["_law_tape", "_law_alphabet_here", "_law_longest", "_law_k"]) (sc := defScope sProduct) (by decide +kernel)) (fun _ _ _ _ _ => pg_name (i := 3) scProduct.nd rfl (Or.inl rfl)) (fun _ _ _ _ _ => pts_nil)
        (fun _ _ _ _ _ => pe_call Gf hr (by rfl) Df0.g Df0.F.kp Df0.b .nil pass0 (pa_cons (pv 0) (pa_cons (pv 1) pa_nil)))) pa_nil))), ?_⟩
    refine ⟨.ref t, rfl, .int m, rfl, m, 1, rfl, rfl, t, c, m + 1, n, rfl, T, by omega, by omega, by omega, fun H1 r k1 T1 r0 r1 => ?_⟩
    refine ⟨r, rfl, by omega, by omega, fun D hD => ?_⟩
    have D1 := T1.ne1 hD
    have D2 := T1.ne2 hD
    have D0 := k1.gone hD
    refine lc_range (lo := 0) (n := r.toNat) (fun i H' => ∃ (xs : List V) (fs : List Fc), fs.length = i ∧ H' D = some (.lst xs) ∧ IsFs K H' xs fs ∧ (∀ f ∈ fs, FOk z f) ∧ Kp t H H' ∧ Tape H' t c (n + 1 + 10 * i)) ?_ ?_ ?_
    · exact ⟨[], [], rfl, upd_same, .nil, fun f hf => (nomatch hf), k1.put D0 D1, T1.upd D1 D2⟩
    · rintro i G hi ⟨xs, fs, fl, gD, iF, ok, kG, TG⟩
      refine ⟨rfl, yes ?_⟩
      refine ⟨.ref t, rfl, .str z, rfl, t, c, n + 1 + 10 * i, z, rfl, TG, by omega, al, fun H4 v f k4 T4 isf fok => ?_⟩
      have gD4 := k4.at gD (fun _ z => by cases z)
      have iF4 := iF.mono (kp_tup k4)
      refine ⟨xs, gD4, ?_, xs ++ [v], fs ++ [f], by rw [List.length_append, fl]; rfl, upd_same, (iF4.snoc isf).mono (upd_tup gD4), fun g hg => ?_, (kG.trans k4).put D0 D1, (T4.upd D1 D2).mono (by omega)⟩
      · rw [iF.len, fl, sizeLine_eq]
        omega
      · rcases List.mem_append.mp hg with q | q
        · exact ok g q
        · rw [List.mem_singleton.mp q]
          exact fok
    · rintro G ⟨xs, fs, fl, gD, iF, ok, kG, TG⟩
      refine ⟨D, xs, rfl, .inl ⟨SqL.of gD, fun p hp => ?_⟩⟩
      have s3 := same_upd (o := .tup xs) hp
      exact k _ _ fs (kG.trans (TG.kp s3)) ((TG.same s3).mono (by omega)) ⟨p, xs, rfl, SqT.of upd_same, iF.mono (same_tup s3)⟩ ok (by omega)
end
end DW
namespace DW
open PySem PySem.Spec PyProof.Rows L2 TL
set_option autoImplicit false
/-! ### unfoldings -/
theorem upd_upd2 {H : Hp} {d : Addr} {o u : HO} : upd (upd H d o) d u = upd H d u := by
  funext b
  by_cases e : b = d
  · rw [e, upd_same, upd_same]
  · rw [upd_ne e, upd_ne e, upd_ne e]
def piece (m : Nat) (f : Fc) : List Nat := if f.1 = true then (List.replicate m (tl f.2)).flatten else tl f.2
def unf (fs : List Fc) (m : Nat) : List Nat := (fs.map (piece m)).flatten
theorem piece_len {m : Nat} {f : Fc} (hm : m ≤ 1000) (h : (tl f.2).length ≤ 3) : (piece m f).length ≤ 3000 := by
  unfold piece
  by_cases e : f.1 = true
  · rw [if_pos e, List.length_flatten, List.map_replicate, List.sum_replicate_nat]
    have := Nat.mul_le_mul hm h
    omega
  · rw [if_neg e]
    omega
theorem unf_len {m : Nat} (hm : m ≤ 1000) : ∀ fs : List Fc, (∀ f ∈ fs, (tl f.2).length ≤ 3) → (unf fs m).length ≤ 3000 * fs.length
  | [], _ => Nat.le_refl _
  | f :: r, h => by
    have ih := unf_len hm r fun g hg => h g (List.mem_cons_of_mem _ hg)
    have h1 := piece_len hm (h f List.mem_cons_self)
    have e : (unf (f :: r) m).length = (piece m f).length + (unf r m).length := by
      unfold unf
      rw [List.map_cons, List.flatten_cons, List.length_append]
    rw [List.length_cons, e]
    omega
theorem sum_lens (ys : List Str) : (ys.map (·.length)).sum = ((ys.map tl).flatten).length := by
  rw [List.length_flatten, List.map_map]
  exact congrArg List.sum (List.map_congr_left fun y _ => (Array.length_toList).symm)
theorem unf_snoc (fs : List Fc) (m : Nat) {i : Nat} {f : Fc} (h : fs[i]? = some f) : unf (fs.take (i + 1)) m = unf (fs.take i) m ++ piece m f := by
  unfold unf
  rw [List.take_add_one, h]
  simp
theorem kd_opt (b : Bool) : decide (V.str (kd b) = V.str "opt") = !b := by
  cases b
  · exact decide_eq_true rfl
  · exact decide_eq_false (by unfold kd; decide +kernel)
def spUnfold (K : PySem.W.Frag) : Sp := fun vs H Q _ => ∃ (v : V) (fs : List Fc) (m : Int), vs = [v, .int m] ∧ IsP K H v fs ∧ (∀ f ∈ fs, (tl f.2).length ≤ 3) ∧ fs.length ≤ 100 ∧ 0 ≤ m ∧ m ≤ 1000 ∧
  ∀ H' r, Same H H' → tl r = unf fs m.toNat → Q (.str r) H'
section
variable {P : Program} {w : World} {K : PySem.W.Frag} {mg : Str → Option Value} {base : Heap}
theorem scUnfold : FnScope ["product", "count", "kind", "letters"] ["product", "count"] (defScope sUnfold) := ⟨rfl, rfl, rfl, by decide +kernel, rfl, by decide +kernel, by decide +kernel⟩
theorem ok_unfold (D : Df K mg "unfold" sUnfold ["product", "count"]) : FnOk P w K mg base CX0 1 D.f D.fd ["product", "count"] (spUnfold K) := by
  refine D.F.ok scUnfold (fun vs H Q E h => ?_) (fun cdv A outer s H vs Q E hr h => ?_)
  · obtain ⟨v, fs, m, rfl, _⟩ := h
    rfl
  · obtain ⟨v, fs, m, rfl, ⟨a, xs, rfl, ha, iF⟩, hl, hn, m0, m1, k⟩ := h
    refine ⟨_, pss_one (ps_ret (pe_join pe_str (pe_lc (own := [("kind", 2), ("letters", 3)]) (g := gTup K 2 (gCons (gName 2) (gCons (gName 3) gNil))) rfl scUnfold.nd (pi_tup (pv 0))
        (blkOk_by (N := ["product", "count", "kind", "letters"]) (sc := defScope sUnfold) (by decide +kernel))
        (fun _ _ _ _ _ => pg_tup rfl (pgs_cons (pg_name (i := 2) scUnfold.nd rfl (.inl rfl)) (pgs_cons (pg_name (i := 3) scUnfold.nd rfl (.inl rfl)) pgs_nil))) (fun _ _ _ _ _ => pts_nil)
        (fun _ _ _ _ _ => pe_ifExp (pt_cmpR op_eq (pv 2) pe_str (nomark _)) (pv 3) (pe_op op_repS (pv 3) (pv 1)))))), ?_⟩
    refine ⟨⟨_, rfl⟩, .ref a, rfl, a, rfl, ⟨xs, ha⟩, fun D hD => ?_⟩
    have s0 := same_upd (o := .lst []) hD
    refine lc_tup (K := K) (a := a) (xs := xs) (fun i H' => ∃ ys : List Str, H' D = some (.lst (ys.map V.str)) ∧ ys.length = i ∧ (ys.map tl).flatten = unf (fs.take i) m.toNat ∧ Same H H') ?_ ?_ ?_ ?_
    · exact ⟨[], upd_same, rfl, rfl, s0⟩
    · rintro i G hi ⟨ys, _, _, _, sm⟩
      exact same_tup sm _ _ ha
    · rintro i x G hx ⟨ys, gD, yl, ye, sm⟩
      obtain ⟨f, hf, b, rfl, hb⟩ := iF.get i x hx
      have fm : f ∈ fs := List.mem_of_getElem? hf
      refine ⟨b, _, rfl, same_tup sm _ _ hb, rfl, _, _, rfl, _, _, rfl, rfl, rfl, yes ?_⟩
      have nD : ∀ o, Same H (upd G D o) := fun o b u e => (upd_ne (ne_of_none e hD)).trans (sm _ _ e)
      have hsz : (ys.map V.str).length < sizeLine := by
        rw [List.length_map, yl, sizeLine_eq]
        have := (List.getElem?_eq_some_iff.mp hf).1
        omega
      refine ⟨.str (kd f.1), rfl, rfl, _, rfl, ?_⟩
      rw [kd_opt]
      refine ite2 (fun e => ?_) (fun e => ?_)
      · refine ⟨_, rfl, _, gD, hsz, ys ++ [f.2], by rw [upd_same, List.map_append]; rfl, by rw [List.length_append, yl]; rfl, ?_, nD _⟩
        rw [unf_snoc fs _ hf, List.map_append, List.flatten_append, ye]
        have e' : ¬ f.1 = true := by simpa using e
        unfold piece
        rw [if_neg e']
        simp
      · refine ⟨_, rfl, _, rfl, f.2, m, rfl, rfl, m0, m1, ?_, fun r hr => ?_⟩
        · have := hl f fm
          rw [Array.length_toList] at this
          exact Nat.le_trans this (by decide)
        refine ⟨_, gD, hsz, ys ++ [r], by rw [upd_same, List.map_append]; rfl, by rw [List.length_append, yl]; rfl, ?_, nD _⟩
        rw [unf_snoc fs _ hf, List.map_append, List.flatten_append, ye]
        have e' : f.1 = true := by simpa using e
        unfold piece
        rw [if_pos e', ← hr]
        simp
    · rintro G ⟨ys, gD, yl, ye, sm⟩
      rw [iF.len, List.take_length] at ye
      refine ⟨"", D, ys, rfl, rfl, .inl (SqL.of gD), ?_, k _ _ sm (by rw [tl_cat, ye])⟩
      rw [sum_lens, ye]
      have := unf_len (m := m.toNat) (by omega) fs hl
      show _ + ys.length * 0 ≤ _
      omega
end
end DW
namespace DW
open PySem PySem.Spec PyProof.Rows L2 TL
set_option autoImplicit false
theorem tl_app (x y : Str) : tl (x ++ y) = tl x ++ tl y := Array.toList_append
def OverW (z : Str) (u : Str) : Prop := ∀ c ∈ tl u, c ∈ tl z
/-! ### the language of a product -/
abbrev ls (f : Fc) : List Nat := tl f.2
inductive Lg : List Fc → List Nat → Prop where
  | nil : Lg [] []
  | skip {f : Fc} {fs : List Fc} {w : List Nat} (h : Lg fs w) : Lg (f :: fs) w
  | opt {f : Fc} {fs : List Fc} {c : Nat} {w : List Nat} (k : f.1 = false) (m : c ∈ ls f) (h : Lg fs w) : Lg (f :: fs) (c :: w)
  | star {f : Fc} {fs : List Fc} {c : Nat} {w : List Nat} (k : f.1 = true) (m : c ∈ ls f) (h : Lg (f :: fs) w) : Lg (f :: fs) (c :: w)
theorem Lg.empty : ∀ fs : List Fc, Lg fs []
  | [] => .nil
  | _ :: fs => .skip (Lg.empty fs)
theorem Lg.tail {fs : List Fc} {c : Nat} {w : List Nat} (h : Lg fs (c :: w)) : Lg fs w := by
  generalize e : c :: w = u at h
  induction h with
  | nil => cases e
  | skip h ih => exact .skip (ih e)
  | opt k m h ih =>
    cases e
    exact .skip h
  | star k m h ih =>
    cases e
    exact h
theorem Lg.drop {fs : List Fc} : ∀ {u v : List Nat}, Lg fs (u ++ v) → Lg fs v
  | [], _, h => h
  | _ :: _, _, h => Lg.drop (Lg.tail h)
theorem Lg.init {fs : List Fc} {u v : List Nat} (h : Lg fs (u ++ v)) : Lg fs u := by
  generalize e : u ++ v = x at h
  induction h generalizing u with
  | nil =>
    obtain ⟨rfl, _⟩ := List.append_eq_nil_iff.mp e
    exact .nil
  | skip h ih => exact .skip (ih e)
  | opt k m h ih =>
    cases u with
    | nil => exact Lg.empty _
    | cons d u =>
      obtain ⟨rfl, e2⟩ := List.cons.inj e
      exact .opt k m (ih e2)
  | star k m h ih =>
    cases u with
    | nil => exact Lg.empty _
    | cons d u =>
      obtain ⟨rfl, e2⟩ := List.cons.inj e
      exact .star k m (ih e2)
theorem Lg.has {fs : List Fc} {c : Nat} {w : List Nat} (h : Lg fs (c :: w)) : ∃ g ∈ fs, c ∈ ls g := by
  generalize e : c :: w = u at h
  induction h with
  | nil => cases e
  | skip h ih =>
    obtain ⟨g, hg, hc⟩ := ih e
    exact ⟨g, List.mem_cons_of_mem _ hg, hc⟩
  | opt k m h ih =>
    cases e
    exact ⟨_, List.mem_cons_self, m⟩
  | star k m h ih =>
    cases e
    exact ⟨_, List.mem_cons_self, m⟩
theorem Lg.app {fs gs : List Fc} {u v : List Nat} (h1 : Lg fs u) (h2 : Lg gs v) : Lg (fs ++ gs) (u ++ v) := by
  induction h1 with
  | nil => exact h2
  | skip h ih => exact .skip ih
  | opt k m h ih => exact .opt k m ih
  | star k m h ih => exact .star k m ih
theorem Lg.split {gs : List Fc} : ∀ {fs : List Fc} {w : List Nat}, Lg (fs ++ gs) w → ∃ u v, w = u ++ v ∧ Lg fs u ∧ Lg gs v := by
  intro fs w h
  generalize e : fs ++ gs = hs at h
  induction h generalizing fs with
  | nil =>
    obtain ⟨rfl, rfl⟩ := List.append_eq_nil_iff.mp e
    exact ⟨[], [], rfl, .nil, .nil⟩
  | @skip f hs w h ih =>
    cases fs with
    | nil =>
      have e' : gs = f :: hs := e
      exact ⟨[], w, rfl, .nil, by rw [e']; exact .skip h⟩
    | cons f' fs =>
      obtain ⟨rfl, e2⟩ := List.cons.inj e
      obtain ⟨u, v, rfl, h1, h2⟩ := ih e2
      exact ⟨u, v, rfl, .skip h1, h2⟩
  | @opt f hs c w k m h ih =>
    cases fs with
    | nil =>
      have e' : gs = f :: hs := e
      exact ⟨[], c :: w, rfl, .nil, by rw [e']; exact .opt k m h⟩
    | cons f' fs =>
      obtain ⟨rfl, e2⟩ := List.cons.inj e
      obtain ⟨u, v, rfl, h1, h2⟩ := ih e2
      exact ⟨c :: u, v, rfl, .opt k m h1, h2⟩
  | @star f hs c w k m h ih =>
    cases fs with
    | nil =>
      have e' : gs = f :: hs := e
      exact ⟨[], c :: w, rfl, .nil, by rw [e']; exact .star k m h⟩
    | cons f' fs =>
      obtain ⟨rfl, e2⟩ := List.cons.inj e
      obtain ⟨u, v, rfl, h1, h2⟩ := ih (fs := f' :: fs) e
      exact ⟨c :: u, v, rfl, .star k m h1, h2⟩
theorem Lg.one_star {f : Fc} (k : f.1 = true) : ∀ {w : List Nat}, Lg [f] w ↔ ∀ c ∈ w, c ∈ ls f := by
  intro w
  constructor
  · intro h
    generalize e : [f] = hs at h
    induction h with
    | nil => intro c hc; cases hc
    | skip h ih =>
      obtain ⟨rfl, rfl⟩ := List.cons.inj e
      cases h
      intro c hc
      cases hc
    | opt k' m h ih =>
      obtain ⟨rfl, rfl⟩ := List.cons.inj e
      rw [k] at k'
      cases k'
    | star k' m h ih =>
      intro c hc
      rcases List.mem_cons.mp hc with q | q
      · obtain ⟨rfl, rfl⟩ := List.cons.inj e
        rw [q]
        exact m
      · exact ih e c q
  · intro h
    induction w with
    | nil => exact Lg.empty _
    | cons c w ih => exact .star k (h c List.mem_cons_self) (ih fun d hd => h d (List.mem_cons_of_mem _ hd))
theorem Lg.one_opt {f : Fc} (k : f.1 = false) {w : List Nat} (h : Lg [f] w) : w = [] ∨ ∃ c ∈ ls f, w = [c] := by
  cases h with
  | skip h =>
    cases h
    exact .inl rfl
  | opt k' m h =>
    cases h
    exact .inr ⟨_, m, rfl⟩
  | star k' m h =>
    rw [k] at k'
    cases k'
/-- a word behind a factor more -/
theorem Lg.snoc {fs : List Fc} {f : Fc} {u : List Nat} : Lg (fs ++ [f]) u ↔ Lg fs u ∨ ∃ u' c, u = u' ++ [c] ∧ c ∈ ls f ∧ (if f.1 = true then Lg (fs ++ [f]) u' else Lg fs u') := by
  constructor
  · intro h
    obtain ⟨a, b, rfl, h1, h2⟩ := h.split
    by_cases k : f.1 = true
    · have q := (Lg.one_star k).mp h2
      rcases List.eq_nil_or_concat b with e | ⟨b', c, e⟩
      · left
        rw [e, List.append_nil]
        exact h1
      · right
        rw [List.concat_eq_append] at e
        refine ⟨a ++ b', c, by rw [e, List.append_assoc], q c (by rw [e]; simp), ?_⟩
        rw [if_pos k]
        exact Lg.app h1 ((Lg.one_star k).mpr fun d hd => q d (by rw [e]; simp [hd]))
    · rcases Lg.one_opt (by simpa using k) h2 with e | ⟨c, hc, e⟩
      · left
        rw [e, List.append_nil]
        exact h1
      · right
        exact ⟨a, c, by rw [e], hc, by rw [if_neg k]; exact h1⟩
  · rintro (h | ⟨u', c, rfl, hc, h⟩)
    · have := Lg.app h (Lg.empty [f])
      rw [List.append_nil] at this
      exact this
    · by_cases k : f.1 = true
      · rw [if_pos k] at h
        obtain ⟨a, b, rfl, h1, h2⟩ := h.split
        rw [List.append_assoc]
        refine Lg.app h1 ((Lg.one_star k).mpr fun d hd => ?_)
        rcases List.mem_append.mp hd with q | q
        · exact (Lg.one_star k).mp h2 d q
        · rw [List.mem_singleton.mp q]
          exact hc
      · rw [if_neg k] at h
        exact Lg.app h (.opt (by simpa using k) hc .nil)
theorem Lg.unf (m : Nat) : ∀ fs : List Fc, (∀ f ∈ fs, f.1 = false → (ls f).length = 1) → Lg fs (DW.unf fs m)
  | [], _ => .nil
  | f :: fs, h => by
    have ih := Lg.unf m fs fun g hg => h g (List.mem_cons_of_mem _ hg)
    have e : DW.unf (f :: fs) m = piece m f ++ DW.unf fs m := rfl
    rw [e]
    refine Lg.app (fs := [f]) ?_ ih
    unfold piece
    by_cases k : f.1 = true
    · rw [if_pos k]
      refine (Lg.one_star k).mpr fun c hc => ?_
      obtain ⟨l, hl, hc⟩ := List.mem_flatten.mp hc
      rw [List.eq_of_mem_replicate hl] at hc
      exact hc
    · rw [if_neg k]
      have k' : f.1 = false := by simpa using k
      have l1 := h f List.mem_cons_self k'
      obtain ⟨c, e⟩ := List.length_eq_one_iff.mp l1
      have e' : tl f.2 = [c] := e
      rw [e']
      exact .opt k' (by show c ∈ tl f.2; rw [e']; simp) .nil
/-! ### inclusion, factor by factor -/
def sw (g f : Fc) : Bool := g.1 && (ls f).all fun c => decide (c ∈ ls g)
def cov (g f : Fc) : Bool := decide (g = f) || sw g f
def inc : List Fc → List Fc → Bool
  | _, [] => true
  | [], _ :: _ => false
  | g :: q, f :: p => if cov g f = true then (if g.1 = true then inc (g :: q) p else inc q p) else inc q (f :: p)
termination_by q p => q.length + p.length
def W1 (fs : List Fc) : Prop := ∀ f ∈ fs, ls f ≠ [] ∧ (f.1 = false → (ls f).length = 1)
theorem cov_sub {g f : Fc} (h : cov g f = true) (k : g.1 = true) : ∀ c ∈ ls f, c ∈ ls g := by
  intro c hc
  unfold cov at h
  rw [Bool.or_eq_true] at h
  rcases h with e | e
  · rw [of_decide_eq_true e]
    exact hc
  · unfold sw at e
    rw [Bool.and_eq_true, List.all_eq_true] at e
    exact of_decide_eq_true (e.2 c hc)
theorem cov_opt {g f : Fc} (h : cov g f = true) (k : g.1 = false) : g = f := by
  unfold cov at h
  rw [Bool.or_eq_true] at h
  rcases h with e | e
  · exact of_decide_eq_true e
  · unfold sw at e
    rw [k] at e
    cases e
theorem inc_sound : ∀ (q p : List Fc), inc q p = true → ∀ w, Lg p w → Lg q w
  | q, [], _, w, h => by
    cases h
    exact Lg.empty q
  | [], f :: p, h, w, _ => by
    unfold inc at h
    cases h
  | g :: q, f :: p, h, w, hw => by
    unfold inc at h
    by_cases c : cov g f = true
    · rw [if_pos c] at h
      by_cases k : g.1 = true
      · rw [if_pos k] at h
        have ih := inc_sound (g :: q) p h
        have sub := cov_sub c k
        generalize e : f :: p = fp at hw
        induction hw with
        | nil => cases e
        | skip h1 _ =>
          cases e
          exact ih _ h1
        | opt _ m h1 _ =>
          cases e
          exact .star k (sub _ m) (ih _ h1)
        | star _ m h1 ih1 =>
          cases e
          exact .star k (sub _ m) (ih1 rfl)
      · rw [if_neg k] at h
        have k' : g.1 = false := by simpa using k
        have ih := inc_sound q p h
        have e := cov_opt c k'
        subst e
        cases hw with
        | skip h1 => exact .skip (ih _ h1)
        | opt k2 m h1 => exact .opt k2 m (ih _ h1)
        | star k2 m h1 =>
          rw [k'] at k2
          cases k2
    · rw [if_neg c] at h
      exact .skip (inc_sound q (f :: p) h w hw)
termination_by q p => q.length + p.length
/-! ### a word that repeats letters in turn -/
def Per (L : List Nat) (o : Nat) (v : List Nat) : Prop := ∀ k : Nat, k < v.length → v[k]? = L[(o + k) % L.length]?
theorem Per.tail {L u v : List Nat} {o : Nat} (h : Per L o (u ++ v)) : Per L (o + u.length) v := fun k hk => by
  have q := h (u.length + k) (by rw [List.length_append]; omega)
  rw [List.getElem?_append_right (by omega), show u.length + k - u.length = k by omega] at q
  rw [q, Nat.add_assoc]
theorem Per.head {L u v : List Nat} {o : Nat} (h : Per L o (u ++ v)) : Per L o u := fun k hk => by
  have q := h k (by rw [List.length_append]; omega)
  rw [List.getElem?_append_left hk] at q
  exact q
theorem Per.all {L v : List Nat} {o : Nat} (h0 : L ≠ []) (h : Per L o v) (hl : L.length ≤ v.length) : ∀ c ∈ L, c ∈ v := by
  intro c hc
  obtain ⟨i, hi, e⟩ := List.mem_iff_getElem.mp hc
  have lp : 0 < L.length := List.length_pos_iff.mpr h0
  have om := Nat.mod_lt o lp
  -- k with (o + k) % |L| = i
  have : ∃ k, k < L.length ∧ (o + k) % L.length = i := by
    by_cases c : o % L.length ≤ i
    · refine ⟨i - o % L.length, by omega, ?_⟩
      rw [Nat.add_mod, Nat.mod_eq_of_lt (show i - o % L.length < L.length by omega)]
      rw [show o % L.length + (i - o % L.length) = i by omega, Nat.mod_eq_of_lt hi]
    · refine ⟨i + L.length - o % L.length, by omega, ?_⟩
      rw [Nat.add_mod, Nat.mod_eq_of_lt (show i + L.length - o % L.length < L.length by omega)]
      rw [show o % L.length + (i + L.length - o % L.length) = i + L.length by omega, Nat.add_mod_right, Nat.mod_eq_of_lt hi]
  obtain ⟨k, hk, ek⟩ := this
  have q := h k (by omega)
  rw [ek, List.getElem?_eq_getElem hi, e] at q
  exact List.mem_of_getElem? q
theorem Per.bound {f : Fc} (h0 : ls f ≠ []) : ∀ (q : List Fc), (∀ g ∈ q, cov g f = false) → ∀ (v : List Nat) (o : Nat), Per (ls f) o v → Lg q v → v.length ≤ q.length * (ls f).length
  | [], _, v, o, _, h => by
    cases h
    exact Nat.zero_le _
  | g :: q, hq, v, o, hp, h => by
    obtain ⟨a, b, rfl, h1, h2⟩ := Lg.split (fs := [g]) h
    have ih := Per.bound h0 q (fun g hg => hq g (List.mem_cons_of_mem _ hg)) b _ hp.tail h2
    have al : a.length ≤ (ls f).length := by
      have lp : 0 < (ls f).length := List.length_pos_iff.mpr h0
      by_cases k : g.1 = true
      · have sub := (Lg.one_star k).mp h1
        by_cases c : (ls f).length ≤ a.length
        · have al := hp.head.all h0 c
          have cv : cov g f = true := by
            unfold cov sw
            rw [Bool.or_eq_true]
            right
            rw [k, Bool.true_and, List.all_eq_true]
            exact fun c hc => decide_eq_true (sub c (al c hc))
          rw [hq g List.mem_cons_self] at cv
          cases cv
        · omega
      · rcases Lg.one_opt (by simpa using k) h1 with e | ⟨c, _, e⟩
        · rw [e]
          exact Nat.zero_le _
        · rw [e]
          exact lp
    rw [List.length_append, List.length_cons, Nat.succ_mul]
    omega
theorem per_rep (L : List Nat) (m : Nat) : Per L 0 (List.replicate m L).flatten := by
  induction m with
  | zero =>
    intro k hk
    exact absurd hk (Nat.not_lt_zero _)
  | succ m ih =>
    intro k hk
    rw [List.replicate_succ, List.flatten_cons]
    by_cases c : k < L.length
    · rw [List.getElem?_append_left c, Nat.zero_add, Nat.mod_eq_of_lt c]
    · rw [List.getElem?_append_right (by omega)]
      have q := ih (k - L.length) (by
        rw [List.replicate_succ, List.flatten_cons, List.length_append] at hk
        omega)
      rw [q, Nat.zero_add, Nat.zero_add]
      congr 1
      rw [← Nat.mod_eq_sub_mod (by omega)]
theorem rep_len (L : List Nat) (m : Nat) : (List.replicate m L).flatten.length = m * L.length := by
  rw [List.length_flatten, List.map_replicate, List.sum_replicate_nat]
/-- skipping factors that do not cover -/
theorem inc_skip {f : Fc} {p : List Fc} : ∀ {a b : List Fc}, (∀ g ∈ a, cov g f = false) → inc (a ++ b) (f :: p) = inc b (f :: p)
  | [], _, _ => rfl
  | g :: a, b, h => by
    rw [List.cons_append]
    rw [show inc (g :: (a ++ b)) (f :: p) = inc (a ++ b) (f :: p) by
      conv => lhs; unfold inc
      rw [if_neg (by rw [h g List.mem_cons_self]; simp)]]
    exact inc_skip fun g hg => h g (List.mem_cons_of_mem _ hg)
theorem first_cov (f : Fc) : ∀ q : List Fc, (∀ g ∈ q, cov g f = false) ∨ ∃ a g b, q = a ++ g :: b ∧ (∀ h ∈ a, cov h f = false) ∧ cov g f = true
  | [] => .inl fun g hg => (nomatch hg)
  | g :: q => by
    by_cases c : cov g f = true
    · exact .inr ⟨[], g, q, rfl, fun h hh => (nomatch hh), c⟩
    · have c' : cov g f = false := by simpa using c
      rcases first_cov f q with h | ⟨a, g', b, rfl, h1, h2⟩
      · left
        intro h' hh
        rcases List.mem_cons.mp hh with e | e
        · rw [e]; exact c'
        · exact h h' e
      · right
        refine ⟨g :: a, g', b, rfl, fun h hh => ?_, h2⟩
        rcases List.mem_cons.mp hh with e | e
        · rw [e]; exact c'
        · exact h1 h e
theorem inc_complete (m : Nat) : ∀ (p q : List Fc), W1 p → W1 q → q.length < m → Lg q (DW.unf p m) → inc q p = true
  | [], q, _, _, _, _ => by
    cases q <;> (unfold inc; rfl)
  | f :: p, q, wp, wq, hm, h => by
    have wp' : W1 p := fun g hg => wp g (List.mem_cons_of_mem _ hg)
    obtain ⟨n0, n1⟩ := wp f List.mem_cons_self
    have e : DW.unf (f :: p) m = piece m f ++ DW.unf p m := rfl
    rw [e] at h
    have lp : 0 < (ls f).length := List.length_pos_iff.mpr n0
    -- the factors that do not cover take at most |q| copies
    have key : ∀ a b, q = a ++ b → (∀ g ∈ a, cov g f = false) → ∃ v, v ≠ [] ∧ (∀ c ∈ v, c ∈ ls f) ∧ Lg b (v ++ DW.unf p m) := by
      intro a b eq ha
      rw [eq] at h
      obtain ⟨u, v, euv, h1, h2⟩ := h.split
      have la : a.length ≤ q.length := by rw [eq, List.length_append]; omega
      by_cases k : f.1 = true
      · have ep : piece m f = (List.replicate m (ls f)).flatten := by unfold piece; rw [if_pos k]
        rw [ep] at euv
        have pr := per_rep (ls f) m
        have lu : u.length < (List.replicate m (ls f)).flatten.length := by
          rw [rep_len]
          apply Decidable.byContradiction
          intro hc
          -- then all copies lie within u
          have hu : ∃ t, u = (List.replicate m (ls f)).flatten ++ t := by
            have q1 : (List.replicate m (ls f)).flatten <+: u ++ v := ⟨_, euv⟩
            have q2 : u <+: u ++ v := List.prefix_append _ _
            have q3 := List.prefix_of_prefix_length_le q1 q2 (by rw [rep_len]; omega)
            obtain ⟨t, et⟩ := q3
            exact ⟨t, et.symm⟩
          obtain ⟨t, rfl⟩ := hu
          have h3 : Lg a (List.replicate m (ls f)).flatten := by
            exact Lg.init h1
          have bd := Per.bound n0 a ha _ 0 pr h3
          rw [rep_len] at bd
          have : a.length * (ls f).length < m * (ls f).length := Nat.mul_lt_mul_of_pos_right (by omega) lp
          omega
        obtain ⟨t, et⟩ : ∃ t, (List.replicate m (ls f)).flatten = u ++ t := by
          have q1 : (List.replicate m (ls f)).flatten <+: u ++ v := ⟨_, euv⟩
          have q2 : u <+: u ++ v := List.prefix_append _ _
          obtain ⟨t, et⟩ := List.prefix_of_prefix_length_le q2 q1 (by omega)
          exact ⟨t, et.symm⟩
        have ev : v = t ++ DW.unf p m := by
          rw [et, List.append_assoc] at euv
          exact (List.append_cancel_left euv).symm
        refine ⟨t, fun z => ?_, fun c hc => ?_, by rw [← ev]; exact h2⟩
        · rw [z, List.append_nil] at et
          rw [et] at lu
          omega
        · have : c ∈ (List.replicate m (ls f)).flatten := by rw [et]; exact List.mem_append_right _ hc
          obtain ⟨l, hl, hc⟩ := List.mem_flatten.mp this
          rw [List.eq_of_mem_replicate hl] at hc
          exact hc
      · have k' : f.1 = false := by simpa using k
        obtain ⟨c, ec⟩ := List.length_eq_one_iff.mp (n1 k')
        have ec' : tl f.2 = [c] := ec
        have ep : piece m f = [c] := by unfold piece; rw [if_neg k, ec']
        rw [ep] at euv
        cases u with
        | nil => exact ⟨[c], by simp, fun d hd => by rw [List.mem_singleton.mp hd]; show c ∈ tl f.2; rw [ec']; simp, by rw [euv]; exact h2⟩
        | cons d u =>
          -- a takes the letter: one of its factors covers f
          exfalso
          have ed : c = d := (List.cons.inj euv).1
          subst ed
          obtain ⟨g, hg, hc⟩ := Lg.has h1
          have hq : g ∈ q := by rw [eq]; exact List.mem_append_left _ hg
          have cv : cov g f = true := by
            unfold cov
            rw [Bool.or_eq_true]
            by_cases kg : g.1 = true
            · right
              unfold sw
              rw [kg, Bool.true_and, List.all_eq_true]
              intro d hd
              have : d ∈ [c] := by rw [← ec']; exact hd
              rw [List.mem_singleton.mp this]
              exact decide_eq_true hc
            · left
              have kg' : g.1 = false := by simpa using kg
              obtain ⟨d, ed⟩ := List.length_eq_one_iff.mp ((wq g hq).2 kg')
              have hc' : c ∈ ls g := hc
              rw [ed] at hc'
              have e2 : tl g.2 = tl f.2 := by
                rw [ec']
                show ls g = [c]
                rw [ed, List.mem_singleton.mp hc']
              obtain ⟨g1, g2⟩ := g
              obtain ⟨f1, f2⟩ := f
              have e3 : g2 = f2 := tl_inj e2
              have e4 : g1 = f1 := kg'.trans k'.symm
              exact decide_eq_true (by rw [e3, e4])
          rw [ha g hg] at cv
          cases cv
    rcases first_cov f q with hn | ⟨a, g, b, eq, ha, hg⟩
    · obtain ⟨v, v0, _, hv⟩ := key q [] (by simp) hn
      cases v with
      | nil => exact absurd rfl v0
      | cons c v => cases hv
    · obtain ⟨v, v0, vs, hv⟩ := key a (g :: b) eq ha
      have ei : inc q (f :: p) = inc (g :: b) (f :: p) := by rw [eq]; exact inc_skip ha
      have lb : (g :: b).length ≤ q.length := by rw [eq, List.length_append]; omega
      rw [ei]
      have wb : W1 (g :: b) := fun x hx => wq x (by rw [eq]; exact List.mem_append_right _ hx)
      by_cases k : g.1 = true
      · have ih := inc_complete m p (g :: b) wp' wb (by omega) hv.drop
        unfold inc
        rw [if_pos hg, if_pos k]
        exact ih
      · have k' : g.1 = false := by simpa using k
        have eg := cov_opt hg k'
        have hb : Lg b (DW.unf p m) := by
          cases v with
          | nil => exact absurd rfl v0
          | cons c v =>
            cases hv with
            | skip h => exact Lg.drop (u := c :: v) h
            | opt _ _ h => exact Lg.drop h
            | star k2 _ _ =>
              rw [k'] at k2
              cases k2
        have ih := inc_complete m p b wp' (fun x hx => wb x (List.mem_cons_of_mem _ hx)) (by rw [List.length_cons] at lb; omega) hb
        unfold inc
        rw [if_pos hg, if_neg k]
        exact ih
end DW
namespace DW
open PySem PySem.Spec PyProof.Rows L2 TL
set_option autoImplicit false
theorem kd_star (b : Bool) : decide (V.str (kd b) = V.str "star") = b := by
  cases b
  · exact decide_eq_false (by unfold kd; decide +kernel)
  · exact decide_eq_true rfl
theorem kd_inj {a b : Bool} (h : kd a = kd b) : a = b := by
  cases a <;> cases b <;> first | rfl | (exfalso; revert h; unfold kd; decide +kernel)
def fD (f : Fc) : PyData := .tuple [.str (kd f.1), .str f.2]
theorem IsF.dp {K : PySem.W.Frag} {H : Hp} {v : V} {f : Fc} (h : IsF K H v f) : Dp K H v (fD f) := by
  obtain ⟨a, rfl, q⟩ := h
  exact .tup q (.cons (.str _) (.cons (.str _) .nil))
def Low (f : Fc) : Prop := (∀ c ∈ ls f, c < 128) ∧ (ls f).length ≤ 1000
theorem strOk_low {x : Str} (h : ∀ c ∈ tl x, c < 128) (hl : (tl x).length ≤ 1000) : PyData.strOk x = true := by
  unfold PyData.strOk
  rw [← Array.all_toList, List.all_eq_true]
  exact fun c hc => decide_eq_true (by have := h c hc; omega)
theorem kd_ok (b : Bool) : PyData.strOk (kd b) = true := by
  cases b <;> (unfold kd; decide +kernel)
theorem fD_shaped {f : Fc} (h : Low f) : SeqAt.shaped (fD f) = true := by
  unfold SeqAt.shaped fD
  rw [Bool.and_eq_true]
  refine ⟨?_, decide_eq_true (by simp [PyData.depth, PyData.depthAll])⟩
  simp only [PyData.canLay0, PyData.canLayAll0, kd_ok, strOk_low h.1 h.2, Bool.and_self]
theorem fD_eqv (f g : Fc) : PyData.eqv (fD f) (fD g) = decide (f = g) := by
  unfold fD
  simp only [PyData.eqv, PyData.eqvAll, Bool.and_true]
  rw [Bool.eq_iff_iff, Bool.and_eq_true, decide_eq_true_eq, beq_iff_eq, beq_iff_eq]
  constructor
  · rintro ⟨e1, e2⟩
    obtain ⟨a, b⟩ := f
    obtain ⟨c, d⟩ := g
    have := kd_inj e1
    simp only at this e2
    rw [this, e2]
  · rintro rfl
    exact ⟨rfl, rfl⟩
def spSw (K : PySem.W.Frag) : Sp := fun vs H Q _ => ∃ (x y : V) (g f : Fc), vs = [x, y] ∧ IsF K H x g ∧ IsF K H y f ∧ (ls f).length ≤ 1000 ∧ ∀ H', Same H H' → Q (.bl (sw g f)) H'
def spCov (K : PySem.W.Frag) : Sp := fun vs H Q _ => ∃ (x y : V) (g f : Fc), vs = [x, y] ∧ IsF K H x g ∧ IsF K H y f ∧ Low g ∧ Low f ∧ ∀ H', Same H H' → Q (.bl (cov g f)) H'
def spIncl (K : PySem.W.Frag) : Sp := fun vs H Q _ => ∃ (x y : V) (p q : List Fc), vs = [x, y] ∧ IsP K H x p ∧ IsP K H y q ∧ (∀ f ∈ p, Low f) ∧ (∀ g ∈ q, Low g) ∧ ∀ H', Same H H' → Q (.bl (inc q p)) H'
def rst : List Fc → List Fc → Option (List Fc)
  | q, [] => some q
  | [], _ :: _ => none
  | g :: q, f :: p => if cov g f = true then (if g.1 = true then rst (g :: q) p else rst q p) else rst q (f :: p)
termination_by q p => (q.length + p.length)
theorem rst_none (f : Fc) (p : List Fc) : rst [] (f :: p) = none := by unfold rst; rfl
theorem rst_cons (g f : Fc) (q p : List Fc) : rst (g :: q) (f :: p) = if cov g f = true then (if g.1 = true then rst (g :: q) p else rst q p) else rst q (f :: p) := by conv => lhs; unfold rst
theorem rst_nil (q : List Fc) : rst q [] = some q := by cases q <;> (unfold rst; rfl)
theorem inc_none (f : Fc) (p : List Fc) : inc [] (f :: p) = false := by unfold inc; rfl
theorem inc_cons (g f : Fc) (q p : List Fc) : inc (g :: q) (f :: p) = if cov g f = true then (if g.1 = true then inc (g :: q) p else inc q p) else inc q (f :: p) := by conv => lhs; unfold inc
theorem inc_nil (q : List Fc) : inc q [] = true := by cases q <;> (unfold inc; rfl)
theorem rst_inc : ∀ (q p : List Fc), (rst q p).isSome = inc q p
  | q, [] => by rw [rst_nil, inc_nil]; rfl
  | [], f :: p => by rw [rst_none, inc_none]; rfl
  | g :: q, f :: p => by
    rw [rst_cons, inc_cons]
    by_cases c : cov g f = true
    · rw [if_pos c, if_pos c]
      by_cases s : g.1 = true
      · rw [if_pos s, if_pos s]
        exact rst_inc (g :: q) p
      · rw [if_neg s, if_neg s]
        exact rst_inc q p
    · rw [if_neg c, if_neg c]
      exact rst_inc q (f :: p)
termination_by q p => (q.length + p.length)
/-- the place that is told: how many factors are left behind -/
def plV (n : Nat) : Option (List Fc) → V
  | none => .non
  | some r => .int ((n - r.length : Nat) : Int)
def spBehind (K : PySem.W.Frag) : Sp := fun vs H Q _ => ∃ (x : V) (q : List Fc) (i : Nat) (g : Fc), vs = [x, .int (i : Int)] ∧ IsP K H x q ∧ q[i]? = some g ∧ ∀ H', Same H H' → Q (.int ((if g.1 = true then i else i + 1 : Nat) : Int)) H'
def spPlc (K : PySem.W.Frag) : Sp := fun vs H Q _ => ∃ (x y : V) (p q : List Fc) (s : Nat), vs = [x, y, .int (s : Int)] ∧ IsP K H x p ∧ IsP K H y q ∧ s ≤ q.length ∧ (∀ f ∈ p, Low f) ∧ (∀ g ∈ q, Low g) ∧ ∀ H', Same H H' → Q (plV q.length (rst (q.drop s) p)) H'
section
variable {P : Program} {w : World} {K : PySem.W.Frag} {mg : Str → Option Value} {base : Heap}
theorem scSw : FnScope ["factor", "other", "letter"] ["factor", "other"] (defScope sSwallows) := ⟨rfl, rfl, rfl, by decide +kernel, rfl, by decide +kernel, by decide +kernel⟩
theorem ok_sw (D : Df K mg "swallows" sSwallows ["factor", "other"]) (ma : mg "all" = none) : FnOk P w K mg base CX0 1 D.f D.fd ["factor", "other"] (spSw K) := by
  refine D.F.ok scSw (fun vs H Q E h => ?_) (fun cdv A outer s H vs Q E hr h => ?_)
  · obtain ⟨x, y, g, f, rfl, _⟩ := h
    rfl
  · obtain ⟨x, y, g, f, rfl, ⟨a, rfl, ha⟩, ⟨b, rfl, hb⟩, fl, k⟩ := h
    refine ⟨_, pss_one (ps_ret (pe_and (pe_cmpR op_eq (pe_ix ix_tup (pv 0) pe_int (fun _ _ => rfl)) pe_str (nomark _)) (pe_one (pe_callB (cr_all rfl) (by rfl) ma (by decide +kernel) (pa_cons
      (pe_lc (own := [("letter", 2)]) (g := gName 2) rfl scSw.nd (pi_str (pe_ix ix_tup (pv 1) pe_int (fun _ _ => rfl))) (blkOk_by (N := ["factor", "other", "letter"]) (sc := defScope sSwallows) (by decide +kernel)) (fun _ _ _ _ _ => pg_name (i := 2) scSw.nd rfl (Or.inl rfl)) (fun _ _ _ _ _ => pts_nil)
        (fun _ _ _ _ _ => pe_cmpR op_in_sign (pv 2) (pe_ix (r := rIxT K) (by exact ix_tup) (pv 0) pe_int (fun _ _ => rfl)) rfl)) pa_nil))))), ?_⟩
    refine ⟨.ref a, rfl, a, _, 0, .str (kd g.1), rfl, rfl, ha, atI_nat (j := 0) rfl, rfl, _, rfl, ?_⟩
    rw [kd_star]
    refine ite2 (fun e => ?_) (fun e => ?_)
    · refine ⟨.ref b, rfl, b, _, 1, .str f.2, rfl, rfl, hb, atI_nat (j := 1) rfl, f.2, rfl, fun D hD => ?_⟩
      have zs : f.2.cps.size = (ls f).length := (Array.length_toList).symm
      refine lc_it walk_str (fun i H' => ∃ bs : List Bool, H' D = some (.lst (bs.map V.bl)) ∧ bs = ((ls f).take i).map (fun c => decide (c ∈ ls g)) ∧ Same H H') ?_ (fun _ _ _ _ => trivial) ?_ ?_
      · exact ⟨[], upd_same, rfl, same_upd hD⟩
      · rintro i x G G' hi ⟨bs, gD, be, sm⟩ ⟨rfl, d, hd, rfl⟩
        have hd' : (tl f.2)[i]? = some d := by rw [Array.getElem?_toList]; exact hd
        refine ⟨rfl, yes ?_⟩
        refine ⟨_, rfl, .ref a, rfl, a, _, 1, .str g.2, rfl, rfl, same_tup sm _ _ ha, atI_nat (j := 1) rfl, d, g.2, rfl, rfl, _, gD, ?_, bs ++ [decide (d ∈ tl g.2)], ?_, ?_, fun b u e => ?_⟩
        · rw [List.length_map, be, List.length_map, List.length_take, sizeLine_eq]
          omega
        · rw [upd_same, List.map_append]
          rfl
        · rw [be, List.take_add_one, hd', List.map_append]
          rfl
        · exact (upd_ne (ne_of_none e hD)).trans (sm _ _ e)
      · rintro G ⟨bs, gD, be, sm⟩
        refine ⟨D, bs, rfl, SqL.of gD, ?_⟩
        have e2 : bs.all id = sw g f := by
          rw [be, zs, List.take_length]
          unfold sw
          rw [e, Bool.true_and, List.all_map]
          rfl
        rw [e2]
        exact k _ sm
    · have e' : g.1 = false := by simpa using e
      have e2 : sw g f = false := by
        unfold sw
        rw [e']
        rfl
      rw [← e2]
      exact k _ (Same.refl _)
theorem scCov : FnScope ["factor", "other"] ["factor", "other"] (defScope sCovers) := ⟨rfl, rfl, rfl, by decide +kernel, rfl, by decide +kernel, by decide +kernel⟩
theorem ok_cov (D : Df K mg "covers" sCovers ["factor", "other"]) (Ds0 : Df K mg "swallows" sSwallows ["factor", "other"]) (ma : mg "all" = none) : FnOk P w K mg base CX0 2 D.f D.fd ["factor", "other"] (spCov K) := by
  have Gs : FnOk P w K mg base CX0 1 Ds0.f Ds0.fd ["factor", "other"] (spSw K) := ok_sw Ds0 ma
  refine D.F.ok scCov (fun vs H Q E h => ?_) (fun cdv A outer s H vs Q E hr h => ?_)
  · obtain ⟨x, y, g, f, rfl, _⟩ := h
    rfl
  · obtain ⟨x, y, g, f, rfl, hg, hf, lg, lf, k⟩ := h
    refine ⟨_, pss_one (ps_ret (pe_or (pe_cmpR (op_eqD hr.units) (pv 0) (pv 1) (nomark _)) (pe_one (pe_call Gs hr (by rfl) Ds0.g Ds0.F.kp Ds0.b .nil pass0 (pa_cons (pv 0) (pa_cons (pv 1) pa_nil)))))), ?_⟩
    refine ⟨x, rfl, y, rfl, fD g, fD f, hg.dp, hf.dp, fD_shaped lg, fD_shaped lf, _, rfl, ?_⟩
    rw [fD_eqv]
    refine ite2 (fun e => ?_) (fun e => ?_)
    · have e2 : cov g f = true := by
        unfold cov
        rw [e]
        rfl
      rw [← e2]
      exact k _ (Same.refl _)
    · refine ⟨x, rfl, y, rfl, x, y, g, f, rfl, hg, hf, lf.2, fun H' sm => ?_⟩
      have e2 : cov g f = sw g f := by
        unfold cov
        rw [show decide (g = f) = false by simpa using e]
        rfl
      rw [← e2]
      exact k _ sm
theorem drop_at {α : Type} {l : List α} {i : Nat} {x : α} (h : l[i]? = some x) : l.drop i = x :: l.drop (i + 1) := by
  obtain ⟨hi, e⟩ := List.getElem?_eq_some_iff.mp h
  rw [← e]
  exact List.drop_eq_getElem_cons hi
theorem IsFs.at {K : PySem.W.Frag} {H : Hp} : ∀ {vs : List V} {fs : List Fc}, IsFs K H vs fs → ∀ (i : Nat), i < fs.length → ∃ v f, vs[i]? = some v ∧ fs[i]? = some f ∧ IsF K H v f := by
  intro vs fs h i hi
  have hv : i < vs.length := by rw [h.len]; exact hi
  obtain ⟨f, e, q⟩ := h.get i vs[i] (List.getElem?_eq_getElem hv)
  exact ⟨_, f, List.getElem?_eq_getElem hv, e, q⟩
theorem scBeh : FnScope ["product", "place"] ["product", "place"] (defScope sBehind) := ⟨rfl, rfl, rfl, by decide +kernel, rfl, by decide +kernel, by decide +kernel⟩
theorem ok_beh (D : Df K mg "behind" sBehind ["product", "place"]) : FnOk P w K mg base CX0 1 D.f D.fd ["product", "place"] (spBehind K) := by
  refine D.F.ok scBeh (fun vs H Q E h => ?_) (fun cdv A outer s H vs Q E hr h => ?_)
  · obtain ⟨x, q, i, g, rfl, _⟩ := h
    rfl
  · obtain ⟨x, q, i, g, rfl, ⟨b, ys, rfl, hb, iQ⟩, hg, k⟩ := h
    refine ⟨_, pss_cons (ps_if (pt_cmpR op_eq (pe_ix ix_tup (pe_ix ix_tup (pv 0) (pv 1) (fun _ _ => rfl)) pe_int (fun _ _ => rfl)) pe_str (nomark _)) (pss_one (ps_ret (pv 1))) pss_nil)
      (pss_one (ps_ret (pe_op op_add (pv 1) pe_int))), ?_⟩
    obtain ⟨v, g', hv, hg', c, rfl, hc⟩ := iQ.at i (List.getElem?_eq_some_iff.mp hg).1
    rw [hg] at hg'
    cases hg'
    refine ⟨.ref b, rfl, .int (i : Int), rfl, b, ys, (i : Int), .ref c, rfl, rfl, hb, atI_nat hv, c, _, 0, .str (kd g.1), rfl, rfl, hc, atI_nat (j := 0) rfl, rfl, _, rfl, ?_⟩
    rw [kd_star]
    refine ite2 (fun e2 => ?_) (fun e2 => ?_)
    · have kg : g.1 = true := by simpa using e2
      rw [if_pos kg] at k
      exact ⟨_, rfl, k _ (Same.refl _)⟩
    · have kg : g.1 = false := by simpa using e2
      rw [if_neg (by rw [kg]; simp)] at k
      exact ⟨_, rfl, _, _, rfl, rfl, k _ (Same.refl _)⟩
theorem scPlc : FnScope ["product", "other", "start", "place", "factor"] ["product", "other", "start"] (defScope sPlaceBehind) := ⟨rfl, rfl, rfl, by decide +kernel, rfl, by decide +kernel, by decide +kernel⟩
theorem ok_plc (D : Df K mg "place_behind" sPlaceBehind ["product", "other", "start"]) (Db : Df K mg "behind" sBehind ["product", "place"]) (Dc : Df K mg "covers" sCovers ["factor", "other"]) (Ds0 : Df K mg "swallows" sSwallows ["factor", "other"]) (ma : mg "all" = none) (ml : mg "len" = none) :
    FnOk P w K mg base CX0 3 D.f D.fd ["product", "other", "start"] (spPlc K) := by
  have Gc : FnOk P w K mg base CX0 2 Dc.f Dc.fd ["factor", "other"] (spCov K) := ok_cov Dc Ds0 ma
  have Gb : FnOk P w K mg base CX0 1 Db.f Db.fd ["product", "place"] (spBehind K) := ok_beh Db
  refine D.F.ok scPlc (fun vs H Q E h => ?_) (fun cdv A outer s H vs Q E hr h => ?_)
  · obtain ⟨x, y, p, q, s, rfl, _⟩ := h
    rfl
  · obtain ⟨x, y, p, q, st, rfl, ⟨a, xs, rfl, ha, iP⟩, ⟨b, ys, rfl, hb, iQ⟩, hst, pl3, ql3, k⟩ := h
    have hq : IsP K H (.ref b) q := ⟨b, ys, rfl, hb, iQ⟩
    refine ⟨_, PSs.nox (pss_cons (ps_set (i := 3) scPlc.nd rfl (.inl rfl) (pv 2))
      (pss_cons (ps_for PassesOwn.never rfl (pi_tup (pv 0)) (pg_name (i := 4) scPlc.nd rfl (.inl rfl))
        (C8.pss_cut (ps_while PassesOwn.never (pw_and (pt_cmpR op_lt (pv 3) (pe_callB call_len_seq (by rfl) ml PySem.boot_len (pa_cons (pv 1) pa_nil)) (nomark _))
            (pw_and1 (pt_not (pt_val (pe_call Gc hr (by rfl) Dc.g Dc.F.kp Dc.b .nil pass0 (pa_cons (pe_ix ix_tup (pv 1) (pv 3) (fun _ _ => rfl)) (pa_cons (pv 4) pa_nil))))))).pt
          (pss_one (ps_aug (i := 3) scPlc.nd rfl (.inl rfl) pe_int ip_add)))
        (pss_cons (ps_if (pt_cmpR op_eq (pv 3) (pe_callB call_len_seq (by rfl) ml PySem.boot_len (pa_cons (pv 1) pa_nil)) (nomark _)) (pss_one (ps_ret pe_non)) pss_nil)
        (pss_one (ps_set (i := 3) scPlc.nd rfl (.inl rfl) (pe_call Gb (hr.mono (by decide)) (by rfl) Db.g Db.F.kp Db.b .nil pass0 (pa_cons (pv 1) (pa_cons (pv 3) pa_nil))))))))
      (pss_one (ps_ret (pv 3))))), ?_⟩
    have yl : ys.length = q.length := iQ.len
    refine ⟨_, rfl, .ref a, rfl, a, rfl, ⟨xs, ha⟩, for_it (walk_tup (xs := xs)) (fun i σ H' => ∃ (pl : Nat) (y3 : Option V), σ = [some (.ref a), some (.ref b), some (.int (st : Int)), some (.int pl), y3] ∧ Same H H' ∧ pl ≤ q.length ∧ rst (q.drop pl) (p.drop i) = rst (q.drop st) p)
      ⟨st, _, rfl, Same.refl _, hst, rfl⟩ (fun _ _ H' _ ⟨_, _, _, sm, _⟩ => same_tup sm _ _ ha) ?_ ?_⟩
    · rintro i x σ G G' hi ⟨pl, y3, rfl, sm, hpl, ei⟩ ⟨rfl, hx⟩
      obtain ⟨f, hf, isf⟩ := iP.get i x hx
      have fm : f ∈ p := List.mem_of_getElem? hf
      rw [drop_at hf] at ei
      refine ⟨fun σ' H' => ∃ pl : Nat, σ' = [some (.ref a), some (.ref b), some (.int (st : Int)), some (.int pl), some x] ∧ Same H H' ∧ pl ≤ q.length ∧ rst (q.drop pl) (f :: p.drop (i + 1)) = rst (q.drop st) p ∧ ∀ g, q[pl]? = some g → cov g f = true, ?_, ?_⟩
      · refine ⟨fun m σ' H' => ∃ pl : Nat, σ' = [some (.ref a), some (.ref b), some (.int (st : Int)), some (.int pl), some x] ∧ Same H H' ∧ pl ≤ q.length ∧ rst (q.drop pl) (f :: p.drop (i + 1)) = rst (q.drop st) p ∧ m = q.length - pl, ⟨_, pl, rfl, sm, hpl, ei, rfl⟩, ?_⟩
        rintro m σ' H' ⟨pl, rfl, sm, hpl, ei, rfl⟩
        refine ⟨.int pl, rfl, .ref b, rfl, b, ys, rfl, .inr (same_tup sm _ _ hb), _, _, rfl, rfl, _, rfl, ite2 (fun e => ?_) (fun e => ?_)⟩
        · have lt : pl < q.length := by
            have := of_decide_eq_true e
            omega
          obtain ⟨v, g, hv, hg, isg⟩ := iQ.at pl lt
          refine ⟨.ref b, rfl, .int pl, rfl, b, ys, (pl : Int), v, rfl, rfl, same_tup sm _ _ hb, atI_nat hv, x, rfl, v, x, g, f, rfl, isg.mono (same_tup sm), isf.mono (same_tup sm), ql3 g (List.mem_of_getElem? hg), pl3 f fm, fun H2 s2 => ?_⟩
          refine ⟨_, rfl, ?_⟩
          have eg := drop_at hg
          refine ite2 (fun e2 => ?_) (fun e2 => ?_)
          · have c : cov g f = false := by simpa using e2
            refine ⟨fun σ' H' => ∃ y, σ' = [some (.ref a), some (.ref b), some (.int (st : Int)), y, some x] ∧ y = some (.int ((pl + 1 : Nat) : Int)) ∧ Same H H', fun σ' H' h => ?_, ?_⟩
            · obtain ⟨y, rfl, rfl, s3⟩ := h
              refine ⟨q.length - (pl + 1), by omega, pl + 1, rfl, s3, by omega, ?_, rfl⟩
              rw [eg, rst_cons, if_neg (by rw [c]; simp)] at ei
              exact ei
            · exact ⟨_, rfl, _, _, rfl, rfl, _, rfl, rfl, sm.trans s2⟩
          · have c : cov g f = true := by simpa using e2
            exact ⟨pl, rfl, sm.trans s2, hpl, ei, fun g' hg' => by rw [hg] at hg'; cases hg'; exact c⟩
        · have ge : q.length ≤ pl := by
            have : ¬ (pl : Int) < (ys.length : Int) := fun z => e (decide_eq_true z)
            omega
          exact ⟨pl, rfl, sm, hpl, ei, fun g hg => by
            have := (List.getElem?_eq_some_iff.mp hg).1
            omega⟩
      · rintro σ' H' ⟨pl, rfl, sm, hpl, ei, cv⟩
        refine ⟨.int pl, rfl, .ref b, rfl, b, ys, rfl, .inr (same_tup sm _ _ hb), rfl, _, rfl, ite2 (fun e => ?_) (fun e => ?_)⟩
        · have e' : pl = q.length := by
            have := V.int.inj (of_decide_eq_true e)
            omega
          rw [e', List.drop_length, rst_none] at ei
          show Q .non _
          have k' := k _ sm
          rw [← ei] at k'
          exact k'
        · have lt : pl < q.length := by
            have : ¬ V.int (pl : Int) = V.int (ys.length : Int) := fun z => e (decide_eq_true z)
            have : ¬ pl = ys.length := fun z => this (by rw [z])
            omega
          obtain ⟨v, g, hv, hg, _⟩ := iQ.at pl lt
          have eg := drop_at hg
          rw [eg, rst_cons, if_pos (cv g hg)] at ei
          refine ⟨.ref b, rfl, .int pl, rfl, .ref b, q, pl, g, rfl, hq.mono (same_tup sm), hg, fun H2 s2 => ?_⟩
          refine ⟨if g.1 = true then pl else pl + 1, _, rfl, sm.trans s2, by split <;> omega, ?_⟩
          by_cases kg : g.1 = true
          · rw [if_pos kg, ← eg] at ei
            rw [if_pos kg]
            exact ei
          · rw [if_neg kg] at ei
            rw [if_neg kg]
            exact ei
    · rintro σ H' ⟨pl, y3, rfl, sm, hpl, ei⟩
      rw [iP.len, List.drop_length, rst_nil] at ei
      have k' := k _ sm
      rw [← ei] at k'
      refine ⟨_, rfl, ?_⟩
      have e3 : plV q.length (some (q.drop pl)) = .int (pl : Int) := by
        show V.int _ = _
        rw [List.length_drop, show q.length - (q.length - pl) = pl by omega]
      rw [e3] at k'
      exact k'
theorem scIncl : FnScope ["product", "other"] ["product", "other"] (defScope sIsIncluded) := ⟨rfl, rfl, rfl, by decide +kernel, rfl, by decide +kernel, by decide +kernel⟩
structure DfIncl (K : PySem.W.Frag) (mg : Str → Option Value) where
  i : Df K mg "is_included" sIsIncluded ["product", "other"]
  p : Df K mg "place_behind" sPlaceBehind ["product", "other", "start"]
  b : Df K mg "behind" sBehind ["product", "place"]
  c : Df K mg "covers" sCovers ["factor", "other"]
  s : Df K mg "swallows" sSwallows ["factor", "other"]
theorem ok_incl (D : DfIncl K mg) (ma : mg "all" = none) (ml : mg "len" = none) :
    FnOk P w K mg base CX0 4 D.i.f D.i.fd ["product", "other"] (spIncl K) := by
  have Gp : FnOk P w K mg base CX0 3 D.p.f D.p.fd ["product", "other", "start"] (spPlc K) := ok_plc D.p D.b D.c D.s ma ml
  refine D.i.F.ok scIncl (fun vs H Q E h => ?_) (fun cdv A outer s H vs Q E hr h => ?_)
  · obtain ⟨x, y, p, q, rfl, _⟩ := h
    rfl
  · obtain ⟨x, y, p, q, rfl, hp, hq, pl3, ql3, k⟩ := h
    refine ⟨_, pss_one (ps_ret (pe_cmpR op_notN (pe_call Gp hr (by rfl) D.p.g D.p.F.kp D.p.b .nil pass0 (pa_cons (pv 0) (pa_cons (pv 1) (pa_cons pe_int pa_nil)))) pe_non (nomark _))), ?_⟩
    refine ⟨_, rfl, _, rfl, x, y, p, q, 0, rfl, hp, hq, Nat.zero_le _, pl3, ql3, fun H' sm => ⟨rfl, ?_⟩⟩
    rw [List.drop_zero]
    have e : (!decide (plV q.length (rst q p) = V.non)) = inc q p := by
      rw [← rst_inc]
      cases rst q p with
      | none => rfl
      | some r => rfl
    rw [e]
    exact k _ sm
end
end DW
namespace DW
open PySem PySem.Spec PyProof.Rows L2 TL
set_option autoImplicit false
/-! ### all ways to divide, by places -/
theorem dp_step {gs : List Fc} {f : Fc} {w : List Nat} {k c : Nat} (hk : w[k]? = some c) :
    Lg (gs ++ [f]) (w.take (k + 1)) ↔ Lg gs (w.take (k + 1)) ∨ (c ∈ ls f ∧ if f.1 = true then Lg (gs ++ [f]) (w.take k) else Lg gs (w.take k)) := by
  have e : w.take (k + 1) = w.take k ++ [c] := by rw [List.take_add_one, hk] <;> rfl
  rw [Lg.snoc]
  constructor
  · rintro (h | ⟨u, d, e2, hd, h⟩)
    · exact .inl h
    · rw [e] at e2
      obtain ⟨e3, e4⟩ := List.append_inj' e2 rfl
      cases e4
      rw [← e3] at h
      exact .inr ⟨hd, h⟩
  · rintro (h | ⟨hc, h⟩)
    · exact .inl h
    · exact .inr ⟨_, c, e, hc, h⟩
/-- bs tells for each place k up to |w| whether the letters ahead of it are a word -/
def Row (fs : List Fc) (w : List Nat) (bs : List Bool) : Prop := bs.length = w.length + 1 ∧ ∀ k b, bs[k]? = some b → (b = true ↔ Lg fs (w.take k))
/-- up to the place j the new factor counts -/
def Mid (gs : List Fc) (f : Fc) (w : List Nat) (j : Nat) (bs : List Bool) : Prop := bs.length = w.length + 1 ∧ ∀ k b, bs[k]? = some b → (b = true ↔ if k ≤ j then Lg (gs ++ [f]) (w.take k) else Lg gs (w.take k))
theorem mid_start {gs : List Fc} {f : Fc} {w : List Nat} {bs : List Bool} (h : Row gs w bs) : Mid gs f w 0 bs := by
  refine ⟨h.1, fun k b hk => ?_⟩
  rw [h.2 k b hk]
  by_cases c : k ≤ 0
  · have e : k = 0 := by omega
    subst e
    rw [if_pos c, List.take_zero]
    exact ⟨fun _ => Lg.empty _, fun _ => Lg.empty _⟩
  · rw [if_neg c]
theorem mid_end {gs : List Fc} {f : Fc} {w : List Nat} {bs : List Bool} (h : Mid gs f w w.length bs) : Row (gs ++ [f]) w bs := by
  refine ⟨h.1, fun k b hk => ?_⟩
  have := (List.getElem?_eq_some_iff.mp hk).1
  rw [h.2 k b hk, if_pos (by rw [h.1] at this; omega)]
theorem mid_set {gs : List Fc} {f : Fc} {w : List Nat} {j c : Nat} {bs : List Bool} (hj : w[j]? = some c) (h : Mid gs f w j bs) (hc : c ∈ ls f) (hs : if f.1 = true then Lg (gs ++ [f]) (w.take j) else Lg gs (w.take j)) : Mid gs f w (j + 1) (bs.set (j + 1) true) := by
  refine ⟨by rw [List.length_set, h.1], fun k b hk => ?_⟩
  by_cases e : k = j + 1
  · subst e
    have hl : j + 1 < bs.length := by
      have := (List.getElem?_eq_some_iff.mp hj).1
      rw [h.1]
      omega
    rw [List.getElem?_set_self hl] at hk
    cases hk
    rw [if_pos (Nat.le_refl _), dp_step hj]
    exact ⟨fun _ => .inr ⟨hc, hs⟩, fun _ => rfl⟩
  · rw [List.getElem?_set_ne (fun z => e z.symm)] at hk
    rw [h.2 k b hk]
    by_cases c : k ≤ j
    · rw [if_pos c, if_pos (by omega)]
    · rw [if_neg c, if_neg (by omega)]
theorem mid_not {gs : List Fc} {f : Fc} {w : List Nat} {j c : Nat} {bs : List Bool} (hj : w[j]? = some c) (h : Mid gs f w j bs) (hn : ¬ (c ∈ ls f ∧ if f.1 = true then Lg (gs ++ [f]) (w.take j) else Lg gs (w.take j))) : Mid gs f w (j + 1) bs := by
  refine ⟨h.1, fun k b hk => ?_⟩
  rw [h.2 k b hk]
  by_cases e : k = j + 1
  · subst e
    rw [if_neg (by omega), if_pos (Nat.le_refl _), dp_step hj]
    exact ⟨.inl, fun z => z.elim id fun q => absurd q hn⟩
  · by_cases c : k ≤ j
    · rw [if_pos c, if_pos (by omega)]
    · rw [if_neg c, if_neg (by omega)]
theorem Lg.of_nil {u : List Nat} (h : Lg [] u) : u = [] := by
  cases h
  rfl
def spInP (K : PySem.W.Frag) : Sp := fun vs H Q _ => ∃ (v : V) (fs : List Fc) (z : Str), vs = [v, .str z] ∧ IsP K H v fs ∧ (tl z).length ≤ 100000 ∧ ∀ H' b, Same H H' → (b = true ↔ Lg fs (tl z)) → Q (.bl b) H'
theorem mapbl_set (bs : List Bool) (j : Nat) (b : Bool) : (bs.map V.bl).set j (.bl b) = (bs.set j b).map V.bl := by
  rw [List.map_set]
section
variable {P : Program} {w : World} {K : PySem.W.Frag} {mg : Str → Option Value} {base : Heap}
theorem scInP : FnScope ["_law_product_here", "_law_word", "_law_places", "_law_kind", "_law_letters", "_law_before", "_law_k", "_law_source"] ["_law_product_here", "_law_word"] (defScope sLInProduct) := ⟨rfl, rfl, rfl, by decide +kernel, rfl, by decide +kernel, by decide +kernel⟩
theorem ok_inp (D : Df K mg "_law_in_product" sLInProduct ["_law_product_here", "_law_word"]) (B : Bl mg) (ml : mg "list" = none) : FnOk P w K mg base CX0 1 D.f D.fd ["_law_product_here", "_law_word"] (spInP K) := by
  refine D.F.ok scInP (fun vs H Q E h => ?_) (fun cdv A outer s H vs Q E hr h => ?_)
  · obtain ⟨v, fs, z, rfl, _⟩ := h
    rfl
  · obtain ⟨v, fs, z, rfl, ⟨a, xs, rfl, ha, iF⟩, zl, k⟩ := h
    have zs : z.length = (tl z).length := (Array.length_toList).symm
    refine ⟨_, PSs.nox (pss_cons (ps_set (i := 2) scInP.nd rfl (.inl rfl) (pe_op op_cat (pe_lst (pa_cons pe_bl pa_nil)) (pe_op op_rep (pe_lst (pa_cons pe_bl pa_nil)) (pe_callB call_len_str (by rfl) B.len PySem.boot_len (pa_cons (pv 1) pa_nil)))))
      (pss_cons (ps_for PassesOwn.never rfl (pi_tup (pv 0)) (pg_tup rfl (pgs_cons (pg_name (i := 3) scInP.nd rfl (.inl rfl)) (pgs_cons (pg_name (i := 4) scInP.nd rfl (.inl rfl)) pgs_nil)))
        (pss_cons (ps_set (i := 5) scInP.nd rfl (.inl rfl) (pe_callTy call_list_of (by rfl) ml (by decide +kernel) (pa_cons (pv 2) pa_nil)))
        (pss_one (ps_for PassesOwn.never rfl (pi_range1 rfl B.range (pa_cons (pe_callB call_len_str (by rfl) B.len PySem.boot_len (pa_cons (pv 1) pa_nil)) pa_nil)) (pg_name (i := 6) scInP.nd rfl (.inl rfl))
          (pss_cons (ps_set (i := 7) scInP.nd rfl (.inl rfl) (pe_ifExp (pt_cmpR op_eq (pv 3) pe_str (nomark _)) (pv 2) (pv 5)))
          (pss_one (ps_if (pw_and (pt_val (pe_ix ix_list (pv 7) (pv 6) (fun _ _ => rfl))) (pw_and1 (pt_cmpR op_in_sign (pe_ix ix_str (pv 1) (pv 6) (fun _ _ => rfl)) (pv 4) rfl))).pt
            (pss_one (ps_asg pe_bl (pg_sub (pv 2) (pe_op op_add (pv 6) pe_int) set_list))) pss_nil)))))))
      (pss_one (ps_ret (pe_ix ix_list (pv 2) (pe_callB call_len_str (by rfl) B.len PySem.boot_len (pa_cons (pv 1) pa_nil)) (fun _ _ => rfl)))))), ?_⟩
    have zsz : z.length ≤ sizeLine := by rw [zs, sizeLine_eq]; omega
    refine ⟨by show 1 ≤ sizeLine; decide, fun l1 e1 => ?_⟩
    refine ⟨by show 1 ≤ sizeLine; decide, fun l2 e2 => ?_⟩
    have s1 := same_upd (o := .lst [.bl true]) e1
    have s2 := same_upd (o := .lst [.bl false]) e2
    refine ⟨.str z, rfl, z, rfl, zsz, l2, (z.length : Int), _, rfl, rfl, upd_same, by omega, by omega, by show 1 * _ ≤ _; rw [sizeLine_eq]; omega, fun l3 e3 => ?_⟩
    have s3 := same_upd (o := .lst (List.replicate (z.length : Int).toNat [V.bl false]).flatten) e3
    refine ⟨l1, l3, _, _, rfl, rfl, s3 _ _ (s2 _ _ upd_same), upd_same, ?_, fun l e4 => ?_⟩
    · rw [sizeLine_eq]
      simp
      omega
    have eb : ([V.bl true] ++ (List.replicate (z.length : Int).toNat [V.bl false]).flatten) = (true :: List.replicate (tl z).length false).map V.bl := by
      rw [List.map_cons, List.map_replicate, ← zs]
      show V.bl true :: _ = _
      congr 1
      simp
    rw [eb] at *
    have s4 := same_upd (o := .lst ((true :: List.replicate (tl z).length false).map V.bl)) e4
    have sa : Same H _ := ((s1.trans s2).trans s3).trans s4
    have l0 : H l = none := ((s1.trans s2).trans s3).free e4
    have start : Row [] (tl z) (true :: List.replicate (tl z).length false) := by
      refine ⟨by simp, fun k b hk => ?_⟩
      cases k with
      | zero =>
        have : b = true := by
          have := Option.some.inj hk
          exact this.symm
        rw [this, List.take_zero]
        exact ⟨fun _ => .nil, fun _ => rfl⟩
      | succ k =>
        rw [List.getElem?_cons_succ, List.getElem?_replicate] at hk
        by_cases c : k < (tl z).length
        · rw [if_pos c] at hk
          cases hk
          constructor
          · intro h
            cases h
          · intro h
            have : (tl z).take (k + 1) = [] := Lg.of_nil h
            have := congrArg List.length this
            rw [List.length_take, List.length_nil] at this
            omega
        · rw [if_neg c] at hk
          cases hk
    refine ⟨.ref a, rfl, a, rfl, ⟨xs, same_tup sa _ _ ha⟩, for_it (walk_tup (xs := xs)) (fun i σ H' => ∃ (bs : List Bool) (y3 y4 y5 y6 y7 : Option V), σ = [some (.ref a), some (.str z), some (.ref l), y3, y4, y5, y6, y7] ∧ H' l = some (.lst (bs.map V.bl)) ∧ Row (fs.take i) (tl z) bs ∧ Same H H')
      ⟨_, _, _, _, _, _, rfl, upd_same, start, sa⟩ (fun _ _ H' _ ⟨_, _, _, _, _, _, _, _, _, sm⟩ => same_tup sm _ _ ha) ?_ ?_⟩
    · rintro i x σ G G' hi ⟨bs, y3, y4, y5, y6, y7, rfl, gl, row, sm⟩ ⟨rfl, hx⟩
      obtain ⟨f, hf, b, rfl, hb⟩ := iF.get i x hx
      have tk : fs.take (i + 1) = fs.take i ++ [f] := by rw [List.take_add_one, hf] <;> rfl
      refine ⟨b, _, rfl, same_tup sm _ _ hb, rfl, _, _, rfl, _, _, rfl, rfl, ?_⟩
      refine ⟨.ref l, rfl, l, _, rfl, .inl (SqL.of gl), fun d hd => ?_⟩
      have sd := same_upd (o := .lst (bs.map V.bl)) hd
      have nld : l ≠ d := ne_of_none gl hd
      have d0 : H d = none := sm.free hd
      refine ⟨.str z, rfl, z, rfl, zsz, (z.length : Int), rfl, by omega, by omega, ?_⟩
      refine for_it (n := z.length) walk_range (fun j σ H' => ∃ (cs : List Bool) (y6 y7 : Option V), σ = [some (.ref a), some (.str z), some (.ref l), some (.str (kd f.1)), some (.str f.2), some (.ref d), y6, y7] ∧ H' l = some (.lst (cs.map V.bl)) ∧ H' d = some (.lst (bs.map V.bl)) ∧ Mid (fs.take i) f (tl z) j cs ∧ Same H H')
        ⟨bs, _, _, rfl, sd _ _ gl, upd_same, mid_start row, sm.trans sd⟩ (fun _ _ _ _ _ => trivial) ?_ ?_
      · rintro j x σ G1 G2 hj ⟨cs, y6, y7, rfl, g1, g2, mid, sm1⟩ ⟨rfl, rfl⟩
        have jl : j < (tl z).length := by omega
        have hz : (tl z)[j]? = some (tl z)[j] := List.getElem?_eq_getElem jl
        have e0 : (0 : Int) + (j : Int) = (j : Int) := by omega
        refine ⟨.str (kd f.1), rfl, rfl, _, rfl, ?_⟩
        rw [kd_star]
        refine ite2 (fun e => ?_) (fun e => ?_)
        · obtain ⟨t, ht, hst⟩ : ∃ t, cs[j]? = some t ∧ (t = true ↔ if f.1 = true then Lg (fs.take i ++ [f]) ((tl z).take j) else Lg (fs.take i) ((tl z).take j)) := by
            have jb : j < cs.length := by rw [mid.1]; omega
            refine ⟨_, List.getElem?_eq_getElem jb, ?_⟩
            rw [mid.2 j _ (List.getElem?_eq_getElem jb), if_pos (Nat.le_refl _), if_pos e]
          refine ⟨.ref l, rfl, ?_⟩
          refine ⟨.ref l, rfl, .int (0 + (j : Int)), rfl, l, _, _, .bl t, rfl, rfl, SqL.of g1, at_of (j := j) e0 (by rw [List.getElem?_map, ht]; rfl), t, rfl, ite2 (fun e2 => ?_) (fun e2 => ?_)⟩
          · refine ⟨.str z, rfl, .int (0 + (j : Int)), rfl, z, _, (tl z)[j], rfl, rfl, zsz, at_cp (j := j) e0 hz, .str f.2, rfl, (tl z)[j], f.2, rfl, rfl, _, rfl, ite2 (fun e3 => ?_) (fun e3 => ?_)⟩
            · have hc : (tl z)[j] ∈ ls f := of_decide_eq_true e3
              have cl : j + 1 < (cs.map V.bl).length := by rw [List.length_map, mid.1]; omega
              refine ⟨.ref l, rfl, .int (0 + (j : Int)), rfl, _, _, rfl, rfl, l, _, _, j + 1, rfl, rfl, g1, ?_, ?_⟩
              · show ixN _ (0 + (j : Int) + 1) = some (j + 1)
                unfold ixN
                rw [if_pos (by omega), if_pos (by omega)]
                congr 1
                omega
              · rw [mapbl_set]
                exact ⟨_, _, _, rfl, upd_same, (upd_ne nld.symm).trans g2, mid_set hz mid hc (hst.mp e2), fun b u e => (upd_ne (ne_of_none e l0)).trans (sm1 _ _ e)⟩
            · exact ⟨cs, _, _, rfl, g1, g2, mid_not hz mid fun q => e3 (decide_eq_true q.1), sm1⟩
          · exact iteF ⟨cs, _, _, rfl, g1, g2, mid_not hz mid fun q => e2 (hst.mpr q.2), sm1⟩
        · obtain ⟨t, ht, hst⟩ : ∃ t, bs[j]? = some t ∧ (t = true ↔ if f.1 = true then Lg (fs.take i ++ [f]) ((tl z).take j) else Lg (fs.take i) ((tl z).take j)) := by
            have jb : j < bs.length := by rw [row.1]; omega
            refine ⟨_, List.getElem?_eq_getElem jb, ?_⟩
            rw [row.2 j _ (List.getElem?_eq_getElem jb), if_neg e]
          refine ⟨.ref d, rfl, ?_⟩
          refine ⟨.ref d, rfl, .int (0 + (j : Int)), rfl, d, _, _, .bl t, rfl, rfl, SqL.of g2, at_of (j := j) e0 (by rw [List.getElem?_map, ht]; rfl), t, rfl, ite2 (fun e2 => ?_) (fun e2 => ?_)⟩
          · refine ⟨.str z, rfl, .int (0 + (j : Int)), rfl, z, _, (tl z)[j], rfl, rfl, zsz, at_cp (j := j) e0 hz, .str f.2, rfl, (tl z)[j], f.2, rfl, rfl, _, rfl, ite2 (fun e3 => ?_) (fun e3 => ?_)⟩
            · have hc : (tl z)[j] ∈ ls f := of_decide_eq_true e3
              have cl : j + 1 < (cs.map V.bl).length := by rw [List.length_map, mid.1]; omega
              refine ⟨.ref l, rfl, .int (0 + (j : Int)), rfl, _, _, rfl, rfl, l, _, _, j + 1, rfl, rfl, g1, ?_, ?_⟩
              · show ixN _ (0 + (j : Int) + 1) = some (j + 1)
                unfold ixN
                rw [if_pos (by omega), if_pos (by omega)]
                congr 1
                omega
              · rw [mapbl_set]
                exact ⟨_, _, _, rfl, upd_same, (upd_ne nld.symm).trans g2, mid_set hz mid hc (hst.mp e2), fun b u e => (upd_ne (ne_of_none e l0)).trans (sm1 _ _ e)⟩
            · exact ⟨cs, _, _, rfl, g1, g2, mid_not hz mid fun q => e3 (decide_eq_true q.1), sm1⟩
          · exact iteF ⟨cs, _, _, rfl, g1, g2, mid_not hz mid fun q => e2 (hst.mpr q.2), sm1⟩
      · rintro σ H' ⟨cs, y6, y7, rfl, g1, g2, mid, sm1⟩
        exact ⟨cs, _, _, _, _, _, rfl, g1, by rw [tk]; exact mid_end (by rw [← zs]; exact mid), sm1⟩
    · rintro σ H' ⟨bs, y3, y4, y5, y6, y7, rfl, gl, row, sm⟩
      rw [iF.len, List.take_length] at row
      have hl : (tl z).length < bs.length := by rw [row.1]; omega
      have hb := List.getElem?_eq_getElem hl
      refine ⟨.ref l, rfl, .str z, rfl, z, rfl, zsz, l, _, _, .bl bs[(tl z).length], rfl, rfl, SqL.of gl, at_of (j := (tl z).length) (by rw [zs]) (by rw [List.getElem?_map, hb]; rfl), k _ _ sm ?_⟩
      have := row.2 _ _ hb
      rw [List.take_length] at this
      exact this
end
end DW
namespace DW
open PySem PySem.Spec PyProof.Rows L2 TL
set_option autoImplicit false
def spWords : Sp := fun vs H Q _ => ∃ (z : Str) (m : Int), vs = [.str z, .int m] ∧ Alph z ∧ 0 ≤ m ∧ m ≤ 4 ∧
  ∀ H' l (ws : List Str), Same H H' → H l = none → H' l = some (.lst (ws.map V.str)) → (∀ u ∈ ws, (tl u).length ≤ 4 ∧ OverW z u) → ws.length ≤ 200 → Q (.ref l) H'
section
variable {P : Program} {w : World} {K : PySem.W.Frag} {mg : Str → Option Value} {base : Heap}
theorem scWords : FnScope ["_law_alphabet_here", "_law_longest", "_law_found", "_law_last", "_law_k", "_law_longer", "_law_word", "_law_letter"] ["_law_alphabet_here", "_law_longest"] (defScope sLWords) := ⟨rfl, rfl, rfl, by decide +kernel, rfl, by decide +kernel, by decide +kernel⟩
theorem ok_words (D : Df K mg "_law_words" sLWords ["_law_alphabet_here", "_law_longest"]) (B : Bl mg) : FnOk P w K mg base CX0 1 D.f D.fd ["_law_alphabet_here", "_law_longest"] spWords := by
  refine D.F.ok scWords (fun vs H Q E h => ?_) (fun cdv A outer s H vs Q E hr h => ?_)
  · obtain ⟨z, m, rfl, _⟩ := h
    rfl
  · obtain ⟨z, m, rfl, al, m0, m4, k⟩ := h
    have zs : z.cps.size = (tl z).length := (Array.length_toList).symm
    refine ⟨_, PSs.nox (pss_cons (ps_par (i := 2) (j := 3) rfl scWords.nd rfl rfl (by decide) rfl rfl (pa_cons (pe_lst (pa_cons pe_str pa_nil)) (pa_cons (pe_lst (pa_cons pe_str pa_nil)) pa_nil)) (by rfl))
      (pss_cons (ps_for PassesOwn.never rfl (pi_range1 rfl B.range (pa_cons (pv 1) pa_nil)) (pg_name (i := 4) scWords.nd rfl (.inl rfl))
        (pss_cons (ps_set (i := 5) scWords.nd rfl (.inl rfl) (pe_lst pa_nil))
        (pss_cons (ps_for PassesOwn.never rfl (pi_list (pv 3)) (pg_name (i := 6) scWords.nd rfl (.inr rfl))
          (pss_one (ps_expr (pe_bm PySem.F.plainAttrs_list PySem.F.slot_list_extend PySem.F.type_list_extend mt_extend (pv 5) (pa_cons
            (pe_lc (own := [("_law_letter", 7)]) (g := gName 7) rfl scWords.nd (pi_str (pv 0)) (blkOk_by (N := ["_law_alphabet_here", "_law_longest", "_law_found", "_law_last", "_law_k", "_law_longer", "_law_word", "_law_letter"]) (sc := defScope sLWords) (by decide +kernel))
              (fun _ _ _ _ _ => pg_name (i := 7) scWords.nd rfl (Or.inl rfl)) (fun _ _ _ _ _ => pts_nil) (fun _ _ _ _ _ => pe_op op_add_str (pv 6) (pv 7))) pa_nil)))))
        (pss_one (ps_par (i := 2) (j := 3) rfl scWords.nd rfl rfl (by decide) rfl rfl (pa_cons (pe_op op_cat (pv 2) (pv 5)) (pa_cons (pv 5) pa_nil)) (by rfl))))))
      (pss_one (ps_ret (pv 2))))), ?_⟩
    refine ⟨by show 1 ≤ sizeLine; decide, fun l1 e1 => ⟨by show 1 ≤ sizeLine; decide, fun l2 e2 => ⟨_, _, rfl, ?_⟩⟩⟩
    have s1 := same_upd (o := .lst [V.str ""]) e1
    have s2 := same_upd (o := .lst [V.str ""]) e2
    have p81 : ∀ i : Nat, i ≤ 4 → 3 ^ i ≤ 81 := fun i hi => Nat.pow_le_pow_right (n := 3) (by decide) hi
    refine ⟨.int m, rfl, m, rfl, by omega, by omega, for_it (n := m.toNat) walk_range (fun i σ H' => ∃ (lf ll : Addr) (fw lw : List Str) (y4 y5 y6 : Option V), σ = [some (.str z), some (.int m), some (.ref lf), some (.ref ll), y4, y5, y6, none] ∧
      H' lf = some (.lst (fw.map V.str)) ∧ H' ll = some (.lst (lw.map V.str)) ∧ (∀ u ∈ lw, (tl u).length = i ∧ OverW z u) ∧ (∀ u ∈ fw, (tl u).length ≤ i ∧ OverW z u) ∧ lw.length ≤ 3 ^ i ∧ fw.length ≤ 2 * 3 ^ i ∧ Same H H' ∧ H lf = none)
      ⟨l1, l2, [""], [""], _, _, _, rfl, s2 _ _ upd_same, upd_same, ?_, ?_, by decide, by decide, s1.trans s2, e1⟩ (fun _ _ _ _ _ => trivial) ?_ ?_⟩
    · intro u hu
      rw [List.mem_singleton.mp hu]
      exact ⟨rfl, fun c hc => (nomatch hc)⟩
    · intro u hu
      rw [List.mem_singleton.mp hu]
      exact ⟨Nat.le_refl _, fun c hc => (nomatch hc)⟩
    · rintro i x σ G G' hi ⟨lf, ll, fw, lw, y4, y5, y6, rfl, gf, gl, hlw, hfw, cl, cf, sm, lf0⟩ ⟨rfl, rfl⟩
      have t81 := p81 i (by omega)
      refine ⟨Nat.zero_le _, fun g hg => ?_⟩
      have sg := same_upd (o := .lst []) hg
      have g0 : H g = none := sm.free hg
      have nfg : lf ≠ g := ne_of_none gf hg
      have nlg : ll ≠ g := ne_of_none gl hg
      refine ⟨.ref ll, rfl, ll, rfl, ⟨_, SqL.of (sg _ _ gl)⟩, for_it (walk_list (xs := lw.map V.str)) (fun j σ H' => ∃ (gw : List Str) (y6 : Option V), σ = [some (.str z), some (.int m), some (.ref lf), some (.ref ll), some (.int (0 + (i : Int))), some (.ref g), y6, none] ∧
        H' g = some (.lst (gw.map V.str)) ∧ H' lf = some (.lst (fw.map V.str)) ∧ H' ll = some (.lst (lw.map V.str)) ∧ (∀ u ∈ gw, (tl u).length = i + 1 ∧ OverW z u) ∧ gw.length ≤ 3 * j ∧ Same H H')
        ⟨[], _, rfl, upd_same, sg _ _ gf, sg _ _ gl, fun u hu => (nomatch hu), Nat.zero_le _, sm.trans sg⟩ (fun _ _ _ _ ⟨_, _, _, _, _, h, _⟩ => SqL.of h) ?_ ?_⟩
      · rintro j x σ G1 G2 hj ⟨gw, y6, rfl, g1, g2, g3, hgw, cg, sm1⟩ ⟨rfl, hx⟩
        rw [List.length_map] at hj
        obtain ⟨u, hu, rfl⟩ : ∃ u, lw[j]? = some u ∧ x = V.str u := by
          rw [List.getElem?_map] at hx
          cases q : lw[j]? with
          | none => rw [q] at hx; cases hx
          | some u => rw [q] at hx; exact ⟨u, rfl, (Option.some.inj hx).symm⟩
        have um := hlw u (List.mem_of_getElem? hu)
        refine ⟨.ref g, rfl, .inl ⟨rfl, _, SqL.of g1⟩, .str z, rfl, z, rfl, fun D hD => ?_⟩
        have sD := same_upd (o := .lst []) hD
        have nD1 : g ≠ D := ne_of_none g1 hD
        have nD2 : lf ≠ D := ne_of_none g2 hD
        have nD3 : ll ≠ D := ne_of_none g3 hD
        have D0 : H D = none := sm1.free hD
        refine lc_it walk_str (fun n H' => ∃ ds : List Str, H' D = some (.lst (ds.map V.str)) ∧ ds.length = n ∧ (∀ v ∈ ds, (tl v).length = i + 1 ∧ OverW z v) ∧ H' g = some (.lst (gw.map V.str)) ∧ H' lf = some (.lst (fw.map V.str)) ∧ H' ll = some (.lst (lw.map V.str)) ∧ Same H H') ?_ (fun _ _ _ _ => trivial) ?_ ?_
        · exact ⟨[], upd_same, rfl, fun v hv => (nomatch hv), sD _ _ g1, sD _ _ g2, sD _ _ g3, sm1.trans sD⟩
        · rintro n x G3 G4 hn ⟨ds, h1, dl, h2, h3, h4, h5, sm3⟩ ⟨rfl, d, hd, rfl⟩
          have dm : d ∈ tl z := List.mem_of_getElem? (i := n) (by rw [Array.getElem?_toList]; exact hd)
          refine ⟨rfl, yes ?_⟩
          refine ⟨_, rfl, _, rfl, u, ⟨#[d]⟩, rfl, rfl, ?_, _, h1, ?_, ds ++ [u ++ (⟨#[d]⟩ : Str)], by rw [upd_same, List.map_append]; rfl, by rw [List.length_append, dl]; rfl, fun v hv => ?_, (upd_ne nD1).trans h3, (upd_ne nD2).trans h4, (upd_ne nD3).trans h5, fun b o e => (upd_ne (ne_of_none e D0)).trans (sm3 _ _ e)⟩
          · have : u.length = i := by rw [← um.1]; exact (Array.length_toList).symm
            rw [this, sizeLine_eq]
            show i + 1 ≤ _
            omega
          · rw [List.length_map, dl, sizeLine_eq]
            have := al.2.2.1
            omega
          · rcases List.mem_append.mp hv with q | q
            · exact h2 v q
            · rw [List.mem_singleton.mp q]
              refine ⟨by rw [tl_app, List.length_append, um.1]; rfl, fun c hc => ?_⟩
              rw [tl_app] at hc
              rcases List.mem_append.mp hc with q | q
              · exact um.2 c q
              · rw [List.mem_singleton.mp q]
                exact dm
        · rintro G3 ⟨ds, h1, dl, h2, h3, h4, h5, sm3⟩
          have l3 := al.2.2.1
          refine ⟨g, D, _, _, rfl, rfl, h3, h1, ?_, gw ++ ds, _, rfl, by rw [upd_same, List.map_append], (upd_ne nfg).trans h4, (upd_ne nlg).trans h5, fun v hv => ?_, by rw [List.length_append, dl]; omega, fun b o e => (upd_ne (ne_of_none e g0)).trans (sm3 _ _ e)⟩
          · rw [List.length_map, List.length_map, dl, sizeLine_eq]
            omega
          · rcases List.mem_append.mp hv with q | q
            · exact hgw v q
            · exact h2 v q
      · rintro σ H' ⟨gw, y6, rfl, g1, g2, g3, hgw, cg, sm1⟩
        rw [List.length_map] at cg
        refine ⟨.ref lf, rfl, .ref g, rfl, lf, g, _, _, rfl, rfl, g2, g1, ?_, fun p hp => ⟨.ref g, rfl, _, _, rfl, ?_⟩⟩
        · rw [List.length_map, List.length_map, sizeLine_eq]
          omega
        have sp := same_upd (o := .lst (fw.map V.str ++ gw.map V.str)) hp
        refine ⟨p, g, fw ++ gw, gw, _, _, _, rfl, by rw [upd_same, List.map_append], sp _ _ g1, hgw, fun v hv => ?_, ?_, ?_, sm1.trans sp, sm1.free hp⟩
        · rcases List.mem_append.mp hv with q | q
          · exact ⟨Nat.le_succ_of_le (hfw v q).1, (hfw v q).2⟩
          · exact ⟨Nat.le_of_eq (hgw v q).1, (hgw v q).2⟩
        · rw [Nat.pow_succ]
          omega
        · rw [List.length_append, Nat.pow_succ]
          omega
    · rintro σ H' ⟨lf, ll, fw, lw, y4, y5, y6, rfl, gf, gl, hlw, hfw, cl, cf, sm, lf0⟩
      have t81 := p81 m.toNat (by omega)
      exact ⟨_, rfl, k _ lf fw sm lf0 gf (fun u hu => ⟨Nat.le_trans (hfw u hu).1 (by omega), (hfw u hu).2⟩) (by omega)⟩
end
end DW
namespace DW
open PySem PySem.Spec PyProof.Rows L2 TL
set_option autoImplicit false
theorem fok_w1 {z : Str} {fs : List Fc} (h : ∀ f ∈ fs, FOk z f) : W1 fs := fun f hf => ⟨(h f hf).1, (h f hf).2.2⟩
theorem fok_len {z : Str} (al : Alph z) {f : Fc} (h : FOk z f) : (ls f).length ≤ 3 := Nat.le_trans h.2.1.length_le al.2.2.1
theorem fok_low {z : Str} (al : Alph z) {f : Fc} (h : FOk z f) : Low f := ⟨fun c hc => by
  have := al.2.2.2 c (h.2.1.subset hc)
  omega, Nat.le_trans (fok_len al h) (by decide)⟩
theorem alph_ne {z : Str} (al : Alph z) : tl z ≠ [] := fun q => by
  have := al.2.1
  rw [q] at this
  cases this
theorem inc_iff {p q : List Fc} (wp : W1 p) (wq : W1 q) : inc q p = true ↔ Lg q (unf p (q.length + 1)) :=
  ⟨fun h => inc_sound q p h _ (Lg.unf _ p fun f hf => (wp f hf).2), fun h => inc_complete (q.length + 1) p q wp wq (Nat.lt_succ_self _) h⟩
/-! ### words as products of optional letters -/
def ones (w : List Nat) : List Fc := w.map fun c => (false, one c)
theorem unf_ones (w : List Nat) (m : Nat) : unf (ones w) m = w := by
  unfold unf ones
  induction w with
  | nil => rfl
  | cons c w ih =>
    rw [List.map_cons, List.map_cons, List.flatten_cons, ih]
    rfl
theorem w1_ones (w : List Nat) : W1 (ones w) := fun f hf => by
  obtain ⟨c, _, rfl⟩ := List.mem_map.mp hf
  exact ⟨by simp [ls, one], fun _ => rfl⟩
theorem acc_iff {q : List Fc} (wq : W1 q) (w : List Nat) : inc q (ones w) = true ↔ Lg q w := by
  rw [inc_iff (w1_ones w) wq, unf_ones]
theorem low_ones {w : List Nat} (h : ∀ c ∈ w, c < 128) : ∀ f ∈ ones w, Low f := fun f hf => by
  obtain ⟨c, hc, rfl⟩ := List.mem_map.mp hf
  exact ⟨fun d hd => by rw [List.mem_singleton.mp hd]; exact h c hc, by show 1 ≤ 1000; decide⟩
theorem Lg.sub {fs : List Fc} {u w : List Nat} (h : Lg fs u) (s : w.Sublist u) : Lg fs w := by
  induction h generalizing w with
  | nil =>
    rw [List.sublist_nil.mp s]
    exact .nil
  | skip h ih => exact .skip (ih s)
  | opt k m h ih =>
    cases s with
    | cons _ s => exact .skip (ih s)
    | cons_cons _ s => exact .opt k m (ih s)
  | star k m h ih =>
    cases s with
    | cons _ s => exact ih s
    | cons_cons _ s => exact .star k m (ih s)
theorem sub_rep {L : List Nat} : ∀ (u : List Nat) (m : Nat), (∀ c ∈ u, c ∈ L) → u.length ≤ m → u.Sublist (List.replicate m L).flatten
  | [], _, _, _ => List.nil_sublist _
  | c :: u, 0, _, h => by simp at h
  | c :: u, m + 1, h, hl => by
    rw [List.replicate_succ, List.flatten_cons]
    have h1 : [c].Sublist L := List.singleton_sublist.mpr (h c List.mem_cons_self)
    have h2 := sub_rep u m (fun d hd => h d (List.mem_cons_of_mem _ hd)) (by rw [List.length_cons] at hl; omega)
    exact h1.append h2
theorem Lg.to_unf (m : Nat) : ∀ (fs : List Fc) (w : List Nat), (∀ f ∈ fs, f.1 = false → (ls f).length = 1) → Lg fs w → w.length ≤ m → w.Sublist (DW.unf fs m)
  | [], w, _, h, _ => by
    rw [Lg.of_nil h]
    exact List.nil_sublist _
  | f :: fs, w, h1, h, hl => by
    obtain ⟨u, v, rfl, hu, hv⟩ := Lg.split (fs := [f]) h
    rw [List.length_append] at hl
    have ih := Lg.to_unf m fs v (fun g hg => h1 g (List.mem_cons_of_mem _ hg)) hv (by omega)
    have e : DW.unf (f :: fs) m = piece m f ++ DW.unf fs m := rfl
    rw [e]
    refine List.Sublist.append ?_ ih
    unfold piece
    by_cases k : f.1 = true
    · rw [if_pos k]
      exact sub_rep u m ((Lg.one_star k).mp hu) (by omega)
    · rw [if_neg k]
      have k' : f.1 = false := by simpa using k
      rcases Lg.one_opt k' hu with e | ⟨c, hc, e⟩
      · rw [e]
        exact List.nil_sublist _
      · rw [e]
        exact List.singleton_sublist.mpr hc
theorem sub_unf_iff {fs : List Fc} (wf : W1 fs) {w : List Nat} {m : Nat} (hm : w.length ≤ m) : w.Sublist (unf fs m) ↔ Lg fs w :=
  ⟨fun s => (Lg.unf m fs fun f hf => (wf f hf).2).sub s, fun h => Lg.to_unf m fs w (fun f hf => (wf f hf).2) h hm⟩
/-! ### letters taken one after the other -/
def rem : List Nat → List Nat → List Nat
  | w, [] => w
  | [], _ :: _ => []
  | c :: w, d :: o => if c = d then rem w o else rem (c :: w) o
theorem rem_nil : ∀ o : List Nat, rem [] o = []
  | [] => rfl
  | _ :: _ => rfl
theorem rem_iff : ∀ (o w : List Nat), rem w o = [] ↔ w.Sublist o
  | [], w => by
    show w = [] ↔ _
    rw [List.sublist_nil]
  | d :: o, [] => by simp [rem]
  | d :: o, c :: w => by
    show (if c = d then rem w o else rem (c :: w) o) = [] ↔ _
    by_cases e : c = d
    · subst e
      rw [if_pos rfl, rem_iff o w, List.cons_sublist_cons]
    · rw [if_neg e, rem_iff o (c :: w)]
      constructor
      · exact fun h => .cons _ h
      · intro h
        cases h with
        | cons _ h => exact h
        | cons_cons _ h => exact absurd rfl e
theorem cut_tail {z : Str} {c : Nat} {r : List Nat} (h : tl z = c :: r) : tl (cutS z (some 1) none) = r := by
  have zl : z.length = r.length + 1 := by
    have e : z.length = (tl z).length := (Array.length_toList).symm
    rw [e, h]
    rfl
  show ((z.cps.toList.drop (HT.sIx z.length 0 (some 1))).take (HT.sIx z.length z.length none - HT.sIx z.length 0 (some 1))) = r
  rw [show HT.sIx z.length 0 (some 1) = min 1 z.length from HT.sIx_nat z.length 0 1, HT.sIx_none]
  have h' : z.cps.toList = c :: r := h
  rw [h', show min 1 z.length = 1 by omega, show z.length - 1 = r.length by omega]
  show List.take r.length r = r
  exact List.take_length
def spSubw (K : PySem.W.Frag) : Sp := fun vs H Q _ => ∃ z : Str, vs = [.str z] ∧ (tl z).length ≤ 100000 ∧ ∀ H' v, Same H H' → IsP K H' v (ones (tl z)) → Q v H'
def spAcc (K : PySem.W.Frag) : Sp := fun vs H Q _ => ∃ (v : V) (fs : List Fc) (z : Str), vs = [v, .str z] ∧ IsP K H v fs ∧ W1 fs ∧ (∀ f ∈ fs, Low f) ∧ (tl z).length ≤ 100000 ∧ (∀ c ∈ tl z, c < 128) ∧ ∀ H' b, Same H H' → (b = true ↔ Lg fs (tl z)) → Q (.bl b) H'
section
variable {P : Program} {w : World} {K : PySem.W.Frag} {mg : Str → Option Value} {base : Heap}
theorem scSubw : FnScope ["word", "letter"] ["word"] (defScope sSubwordsProduct) := ⟨rfl, rfl, rfl, by decide +kernel, rfl, by decide +kernel, by decide +kernel⟩
theorem ok_subw (D : Df K mg "subwords_product" sSubwordsProduct ["word"]) (mt : mg "tuple" = none) : FnOk P w K mg base CX0 1 D.f D.fd ["word"] (spSubw K) := by
  refine D.F.ok scSubw (fun vs H Q E h => ?_) (fun cdv A outer s H vs Q E hr h => ?_)
  · obtain ⟨z, rfl, _⟩ := h
    rfl
  · obtain ⟨z, rfl, zl, k⟩ := h
    have zs : z.cps.size = (tl z).length := (Array.length_toList).symm
    refine ⟨_, (pss_one (ps_ret (pe_callTy call_tuple_of (by rfl) mt (by decide +kernel) (pa_cons (pe_lc (own := [("letter", 1)]) (g := gName 1) rfl scSubw.nd (pi_str (pv 0)) (blkOk_by (N := ["word", "letter"]) (sc := defScope sSubwordsProduct) (by decide +kernel)) (fun _ _ _ _ _ => pg_name (i := 1) scSubw.nd rfl (Or.inl rfl)) (fun _ _ _ _ _ => pts_nil) (fun _ _ _ _ _ => (pe_tup (pa_cons pe_str (pa_cons (pv 1) pa_nil))))) pa_nil)))), ?_⟩
    refine ⟨.str z, rfl, z, rfl, fun D hD => ?_⟩
    refine lc_it walk_str (fun i H' => ∃ us : List V, H' D = some (.lst us) ∧ IsFs K H' us (ones ((tl z).take i)) ∧ Same H H') ?_ (fun _ _ _ _ => trivial) ?_ ?_
    · exact ⟨[], upd_same, .nil, same_upd hD⟩
    · rintro i x G G' hi ⟨us, gD, iF, sm⟩ ⟨rfl, d, hd, rfl⟩
      have hd' : (tl z)[i]? = some d := by rw [Array.getElem?_toList]; exact hd
      refine ⟨rfl, yes ?_⟩
      refine ⟨_, rfl, by show 2 ≤ sizeLine; decide, fun p hp => ?_⟩
      have sp := same_upd (o := .tup [.str "opt", .str ⟨#[d]⟩]) hp
      have gD1 := sp _ _ gD
      refine ⟨us, gD1, ?_, us ++ [.ref p], upd_same, ?_, fun b o e => (upd_ne (ne_of_none e hD)).trans (sp _ _ (sm _ _ e))⟩
      · rw [iF.len]
        unfold ones
        rw [List.length_map, List.length_take, sizeLine_eq]
        omega
      · have e : ones ((tl z).take (i + 1)) = ones ((tl z).take i) ++ [(false, one d)] := by
          unfold ones
          rw [List.take_add_one, hd', List.map_append]
          rfl
        rw [e]
        exact ((iF.mono (same_tup sp)).snoc ⟨p, rfl, SqT.of upd_same⟩).mono (upd_tup gD1)
    · rintro G ⟨us, gD, iF, sm⟩
      rw [zs, List.take_length] at iF
      refine ⟨D, us, rfl, .inl ⟨SqL.of gD, fun p hp => ?_⟩⟩
      have sp := same_upd (o := .tup us) hp
      exact k _ _ (sm.trans sp) ⟨p, us, rfl, SqT.of upd_same, iF.mono (same_tup sp)⟩
theorem scAcc : FnScope ["product", "word"] ["product", "word"] (defScope sAccepts) := ⟨rfl, rfl, rfl, by decide +kernel, rfl, by decide +kernel, by decide +kernel⟩
theorem ok_acc (D : Df K mg "accepts" sAccepts ["product", "word"]) (Dw : Df K mg "subwords_product" sSubwordsProduct ["word"]) (Di : DfIncl K mg)
    (mt : mg "tuple" = none) (ma : mg "all" = none) (ml : mg "len" = none) : FnOk P w K mg base CX0 5 D.f D.fd ["product", "word"] (spAcc K) := by
  have Gs : FnOk P w K mg base CX0 1 Dw.f Dw.fd ["word"] (spSubw K) := ok_subw Dw mt
  have Gi : FnOk P w K mg base CX0 4 Di.i.f Di.i.fd ["product", "other"] (spIncl K) := ok_incl Di ma ml
  refine D.F.ok scAcc (fun vs H Q E h => ?_) (fun cdv A outer s H vs Q E hr h => ?_)
  · obtain ⟨v, fs, z, rfl, _⟩ := h
    rfl
  · obtain ⟨v, fs, z, rfl, isp, wf, low, zl, zlow, k⟩ := h
    have hr1 : Room 1 _ := hr.mono (by decide)
    refine ⟨_, (pss_one (ps_ret (pe_call Gi hr (by rfl) Di.i.g Di.i.F.kp Di.i.b .nil pass0 (pa_cons (pe_call Gs hr1 (by rfl) Dw.g Dw.F.kp Dw.b .nil pass0 (pa_cons (pv 1) pa_nil)) (pa_cons (pv 0) pa_nil))))), ?_⟩
    refine ⟨.str z, rfl, z, rfl, zl, fun H1 u s1 isu => ?_⟩
    exact ⟨v, rfl, u, v, ones (tl z), fs, rfl, isu, isp.mono (same_tup s1), low_ones zlow, low, fun H2 s2 => k _ _ (s1.trans s2) (acc_iff wf _)⟩
end
end DW
namespace DW
open PySem PySem.Spec PyProof.Rows L2 TL
set_option autoImplicit false
theorem rep_mono (L : List Nat) {a b : Nat} (h : a ≤ b) : ((List.replicate a L).flatten).Sublist (List.replicate b L).flatten := by
  obtain ⟨k, rfl⟩ : ∃ k, b = a + k := ⟨b - a, by omega⟩
  rw [← List.replicate_append_replicate, List.flatten_append]
  exact List.sublist_append_left _ _
theorem unf_mono {a b : Nat} (h : a ≤ b) : ∀ fs : List Fc, (unf fs a).Sublist (unf fs b)
  | [] => List.Sublist.refl _
  | f :: fs => by
    show (piece a f ++ unf fs a).Sublist (piece b f ++ unf fs b)
    refine List.Sublist.append ?_ (unf_mono h fs)
    unfold piece
    by_cases e : f.1 = true
    · rw [if_pos e, if_pos e]
      exact rep_mono _ h
    · rw [if_neg e, if_neg e]
      exact List.Sublist.refl _
theorem over_unf {z : Str} {fs : List Fc} (ok : ∀ f ∈ fs, FOk z f) {m : Nat} {c : Nat} (hc : c ∈ unf fs m) : c ∈ tl z := by
  unfold unf at hc
  obtain ⟨l, hl, hc⟩ := List.mem_flatten.mp hc
  obtain ⟨f, hf, rfl⟩ := List.mem_map.mp hl
  refine (ok f hf).2.1.subset ?_
  unfold piece at hc
  by_cases e : f.1 = true
  · rw [if_pos e] at hc
    obtain ⟨l, hl, hc⟩ := List.mem_flatten.mp hc
    rw [List.eq_of_mem_replicate hl] at hc
    exact hc
  · rw [if_neg e] at hc
    exact hc
/-! ### lists of products -/
def pD (fs : List Fc) : PyData := .tuple (fs.map fD)
theorem IsFs.dp {K : PySem.W.Frag} {H : Hp} : ∀ {vs : List V} {fs : List Fc}, IsFs K H vs fs → DpAll K H vs (fs.map fD)
  | _, _, .nil => .nil
  | _, _, .cons h r => .cons h.dp r.dp
theorem IsP.dp {K : PySem.W.Frag} {H : Hp} {v : V} {fs : List Fc} (h : IsP K H v fs) : Dp K H v (pD fs) := by
  obtain ⟨a, xs, rfl, q, r⟩ := h
  exact .tup q r.dp
structure GoodP (K : PySem.W.Frag) (H : Hp) (z : Str) (v : V) (q : List Fc) : Prop where
  isp : IsP K H v q
  ok : ∀ f ∈ q, FOk z f
  len : q.length ≤ 6
inductive IsPs (K : PySem.W.Frag) (H : Hp) (z : Str) : List V → List (List Fc) → Prop where
  | nil : IsPs K H z [] []
  | cons {v : V} {f : List Fc} {vs : List V} {fs : List (List Fc)} (h : GoodP K H z v f) (r : IsPs K H z vs fs) : IsPs K H z (v :: vs) (f :: fs)
section
variable {K : PySem.W.Frag} {H H' : Hp} {z : Str}
theorem IsPs.snoc {v : V} {f : List Fc} : ∀ {vs : List V} {fs : List (List Fc)}, IsPs K H z vs fs → GoodP K H z v f → IsPs K H z (vs ++ [v]) (fs ++ [f])
  | _, _, .nil, h => .cons h .nil
  | _, _, .cons a r, h => .cons a (r.snoc h)
theorem IsPs.len : ∀ {vs : List V} {fs : List (List Fc)}, IsPs K H z vs fs → vs.length = fs.length
  | _, _, .nil => rfl
  | _, _, .cons _ r => by rw [List.length_cons, List.length_cons, r.len]
theorem IsPs.get : ∀ {vs : List V} {fs : List (List Fc)}, IsPs K H z vs fs → ∀ (i : Nat) (v : V), vs[i]? = some v → ∃ f, fs[i]? = some f ∧ GoodP K H z v f
  | _, _, .nil, i, v, h => by simp at h
  | _, _, .cons a r, 0, v, h => by
    have e := Option.some.inj h
    subst e
    exact ⟨_, rfl, a⟩
  | _, _, .cons a r, i + 1, v, h => r.get i v h
theorem GoodP.mono {v : V} {q : List Fc} (m : ∀ b xs, SqT K H b xs → SqT K H' b xs) (g : GoodP K H z v q) : GoodP K H' z v q := ⟨g.isp.mono m, g.ok, g.len⟩
theorem IsPs.mono (m : ∀ b xs, SqT K H b xs → SqT K H' b xs) : ∀ {vs : List V} {fs : List (List Fc)}, IsPs K H z vs fs → IsPs K H' z vs fs
  | _, _, .nil => .nil
  | _, _, .cons a r => .cons (a.mono m) (r.mono m)
theorem IsPs.dp : ∀ {vs : List V} {fs : List (List Fc)}, IsPs K H z vs fs → DpAll K H vs (fs.map pD)
  | _, _, .nil => .nil
  | _, _, .cons h r => .cons h.isp.dp r.dp
end
theorem lay_fs {z : Str} (al : Alph z) : ∀ fs : List Fc, (∀ f ∈ fs, FOk z f) → PyData.canLayAll0 (fs.map fD) = true ∧ PyData.depthAll (fs.map fD) ≤ 1
  | [], _ => ⟨rfl, by simp [PyData.depthAll]⟩
  | f :: fs, h => by
    obtain ⟨h1, h2⟩ := lay_fs al fs fun g hg => h g (List.mem_cons_of_mem _ hg)
    have hf := fD_shaped (fok_low al (h f List.mem_cons_self))
    unfold SeqAt.shaped at hf
    rw [Bool.and_eq_true] at hf
    have d1 : (fD f).depth ≤ 1 := by simp [fD, PyData.depth, PyData.depthAll]
    rw [List.map_cons]
    refine ⟨by simp only [PyData.canLayAll0, hf.1, h1, Bool.and_self], ?_⟩
    simp only [PyData.depthAll]
    omega
theorem lay_ps {z : Str} (al : Alph z) : ∀ qs : List (List Fc), (∀ q ∈ qs, ∀ f ∈ q, FOk z f) → PyData.canLayAll0 (qs.map pD) = true ∧ PyData.depthAll (qs.map pD) ≤ 2
  | [], _ => ⟨rfl, by simp [PyData.depthAll]⟩
  | q :: qs, h => by
    obtain ⟨h1, h2⟩ := lay_ps al qs fun g hg => h g (List.mem_cons_of_mem _ hg)
    obtain ⟨h3, h4⟩ := lay_fs al q (h q List.mem_cons_self)
    rw [List.map_cons]
    refine ⟨by simp only [PyData.canLayAll0, pD, PyData.canLay0, h3, h1, Bool.and_self], ?_⟩
    simp only [PyData.depthAll, pD, PyData.depth]
    omega
theorem ps_shaped {z : Str} (al : Alph z) {qs : List (List Fc)} (h : ∀ q ∈ qs, ∀ f ∈ q, FOk z f) : SeqAt.shaped (.list (qs.map pD)) = true := by
  obtain ⟨h1, h2⟩ := lay_ps al qs h
  unfold SeqAt.shaped
  rw [Bool.and_eq_true]
  refine ⟨by simp only [PyData.canLay0, h1], decide_eq_true ?_⟩
  simp only [PyData.depth]
  omega
theorem nil_shaped : SeqAt.shaped (.list []) = true := by decide +kernel
theorem eqv_nil (ds : List PyData) : PyData.eqv (.list ds) (.list []) = ds.isEmpty := by
  cases ds <;> simp [PyData.eqv, PyData.eqvAll]
theorem IsPs.oks {K : PySem.W.Frag} {H : Hp} {z : Str} : ∀ {vs : List V} {fs : List (List Fc)}, IsPs K H z vs fs → ∀ q ∈ fs, (∀ f ∈ q, FOk z f) ∧ q.length ≤ 6
  | _, _, .nil, q, h => (nomatch h)
  | _, _, .cons a r, q, h => by
    rcases List.mem_cons.mp h with e | e
    · rw [e]
      exact ⟨a.ok, a.len⟩
    · exact r.oks q e
/-! ### slices and sums of tuples -/
theorem sl_any {K : PySem.W.Frag} {H : Hp} {a : Addr} {xs : List V} {lo hi : Option Int} {Q : VK} (ha : SqT K H a xs) (k : ∀ H' a', Same H H' → SqT K H' a' (cutV xs lo hi) → Q (.ref a') H') : rSlA K (.ref a) lo hi H Q := by
  refine ⟨a, xs, rfl, ha, fun h => k H a (Same.refl _) ?_, fun _ p hp => k _ p (same_upd hp) (SqT.of upd_same)⟩
  have e : cutV xs lo hi = xs := by
    unfold cutV
    rw [h.1, h.2, List.drop_zero, Nat.sub_zero, List.take_length]
  rw [e]
  exact ha
theorem cat_any {K : PySem.W.Frag} {H : Hp} {a b : Addr} {xs ys : List V} {Q : VK} (ha : SqT K H a xs) (hb : SqT K H b ys) (hl : xs.length + ys.length ≤ sizeLine) (k : ∀ H' a', Same H H' → SqT K H' a' (xs ++ ys) → Q (.ref a') H') : rCatA K (.ref a) (.ref b) H Q := by
  refine ⟨a, b, xs, ys, rfl, rfl, ha, hb, hl, fun h => k H b (Same.refl _) ?_, fun _ h => k H a (Same.refl _) ?_, fun _ _ p hp => k _ p (same_upd hp) (SqT.of upd_same)⟩
  · rw [h]
    exact hb
  · rw [h, List.append_nil]
    exact ha
theorem cut_take (xs : List V) {k : Int} (h0 : 0 ≤ k) (h : k ≤ xs.length) : cutV xs none (some k) = xs.take k.toNat := by
  obtain ⟨n, rfl⟩ := Int.eq_ofNat_of_zero_le h0
  unfold cutV
  rw [HT.sIx_none, HT.sIx_nat, List.drop_zero, Nat.sub_zero, Nat.min_eq_left (by omega)]
  rfl
theorem cut_drop (xs : List V) {k : Int} (h0 : 0 ≤ k) : cutV xs (some k) none = xs.drop k.toNat := by
  obtain ⟨n, rfl⟩ := Int.eq_ofNat_of_zero_le h0
  unfold cutV
  rw [HT.sIx_none, HT.sIx_nat]
  show List.take _ (List.drop (min n xs.length) xs) = xs.drop n
  by_cases c : n ≤ xs.length
  · rw [Nat.min_eq_left c]
    exact List.take_of_length_le (by rw [List.length_drop]; omega)
  · rw [Nat.min_eq_right (by omega), List.drop_length, List.drop_of_length_le (by omega), List.take_nil]
theorem IsFs.app {K : PySem.W.Frag} {H : Hp} : ∀ {vs us : List V} {fs gs : List Fc}, IsFs K H vs fs → IsFs K H us gs → IsFs K H (vs ++ us) (fs ++ gs)
  | _, _, _, _, .nil, h => h
  | _, _, _, _, .cons a r, h => .cons a (r.app h)
theorem IsFs.take {K : PySem.W.Frag} {H : Hp} : ∀ {vs : List V} {fs : List Fc} (n : Nat), IsFs K H vs fs → IsFs K H (vs.take n) (fs.take n)
  | _, _, 0, _ => .nil
  | _, _, _ + 1, .nil => .nil
  | _, _, n + 1, .cons a r => .cons a (r.take n)
theorem IsFs.drop {K : PySem.W.Frag} {H : Hp} : ∀ {vs : List V} {fs : List Fc} (n : Nat), IsFs K H vs fs → IsFs K H (vs.drop n) (fs.drop n)
  | _, _, 0, h => h
  | _, _, _ + 1, .nil => .nil
  | _, _, n + 1, .cons a r => r.drop n
end DW
/-! lists of texts, of numbers, and products as data -/
namespace DW
open PySem PySem.Spec PyProof.Rows L2 TL
set_option autoImplicit false
def strD (ws : List Str) : PyData := .list (ws.map PyData.str)
theorem str_dpAll {K : PySem.W.Frag} {H : Hp} : ∀ ws : List Str, DpAll K H (ws.map V.str) (ws.map PyData.str)
  | [] => .nil
  | x :: r => .cons (.str _) (str_dpAll r)
theorem str_dp {K : PySem.W.Frag} {H : Hp} {a : Addr} {ws : List Str} (h : SqL K H a (ws.map V.str)) : Dp K H (.ref a) (strD ws) := .lst h (str_dpAll ws)
theorem str_ok : ∀ (ws : List Str), (∀ u ∈ ws, (tl u).length ≤ 20 ∧ ∀ c ∈ tl u, c < 128) → PyData.canLayAll0 (ws.map PyData.str) = true ∧ PyData.depthAll (ws.map PyData.str) = 0 ∧ PyData.weightAll (ws.map PyData.str) ≤ 21 * ws.length ∧
    PyData.showableAll (ws.map PyData.str) = true ∧ PyData.hasDictAll (ws.map PyData.str) = false ∧ PyData.intsShortAll 13 (ws.map PyData.str) = true
  | [], _ => ⟨rfl, rfl, Nat.le_refl _, rfl, rfl, rfl⟩
  | u :: r, h => by
    obtain ⟨h1, h2, h3, h4, h5, h6⟩ := str_ok r fun q hq => h q (List.mem_cons_of_mem _ hq)
    obtain ⟨ul, uc⟩ := h u List.mem_cons_self
    have us : u.cps.size = (tl u).length := (Array.length_toList).symm
    have so : PyData.strOk u = true := by
      unfold PyData.strOk
      rw [Array.all_eq_true]
      intro i hi
      have := uc u.cps[i] (by show u.cps[i] ∈ u.cps.toList; rw [Array.mem_toList_iff]; exact Array.getElem_mem hi)
      exact decide_eq_true (by omega)
    rw [List.map_cons]
    refine ⟨by simp only [PyData.canLayAll0, PyData.canLay0, so, h1, Bool.and_self], by simp only [PyData.depthAll, PyData.depth, h2]; rfl, ?_, by simp only [PyData.showableAll, PyData.showable, h4, Bool.and_self], by simp only [PyData.hasDictAll, PyData.hasDict, h5, Bool.or_self], by simp only [PyData.intsShortAll, PyData.intsShort, h6, Bool.and_self]⟩
    simp only [PyData.weightAll, PyData.weight, List.length_cons]
    omega
theorem str_shaped {ws : List Str} (h : ∀ u ∈ ws, (tl u).length ≤ 20 ∧ ∀ c ∈ tl u, c < 128) : SeqAt.shaped (strD ws) = true := by
  obtain ⟨h1, h2, _⟩ := str_ok ws h
  unfold SeqAt.shaped strD
  rw [Bool.and_eq_true]
  exact ⟨by simp only [PyData.canLay0, h1], decide_eq_true (by simp only [PyData.depth, h2]; omega)⟩
theorem str_eqv {ws : List Str} (h : ∀ u ∈ ws, (tl u).length ≤ 20 ∧ ∀ c ∈ tl u, c < 128) : PyData.eqv (strD ws) (strD ws) = true := by
  obtain ⟨h1, _⟩ := str_ok ws h
  exact PySem.SeqAt.eqv_refl _ (by unfold strD; simp only [PyData.canLay0, h1])
theorem str_eqv_nil (ws : List Str) : PyData.eqv (strD ws) (.list []) = ws.isEmpty := by
  unfold strD
  cases ws <;> simp [PyData.eqv, PyData.eqvAll]
theorem nat_uniq : ∀ (l m : List Nat), l.Pairwise (· < ·) → m.Pairwise (· < ·) → (∀ k, k ∈ l ↔ k ∈ m) → l = m
  | [], [], _, _, _ => rfl
  | [], b :: m, _, _, h => by
    have := (h b).mpr List.mem_cons_self
    cases this
  | a :: l, [], _, _, h => by
    have := (h a).mp List.mem_cons_self
    cases this
  | a :: l, b :: m, p, q, h => by
    obtain ⟨pa, p'⟩ := List.pairwise_cons.mp p
    obtain ⟨qb, q'⟩ := List.pairwise_cons.mp q
    have ab : a = b := by
      rcases List.mem_cons.mp ((h a).mp List.mem_cons_self) with e | e
      · exact e
      · rcases List.mem_cons.mp ((h b).mpr List.mem_cons_self) with f | f
        · exact f.symm
        · have h1 := pa b f
          have h2 := qb a e
          omega
    subst ab
    have e := nat_uniq l m p' q' fun k => by
      constructor
      · intro hk
        rcases List.mem_cons.mp ((h k).mp (List.mem_cons_of_mem _ hk)) with e | e
        · have := pa k hk
          omega
        · exact e
      · intro hk
        rcases List.mem_cons.mp ((h k).mpr (List.mem_cons_of_mem _ hk)) with e | e
        · have := qb k hk
          omega
        · exact e
    rw [e]
theorem ones_ok {cs : List Nat} (h : ∀ c ∈ cs, c < 128) : ∀ u ∈ cs.map one, (tl u).length ≤ 20 ∧ ∀ c ∈ tl u, c < 128 := fun u hu => by
  obtain ⟨c, hc, rfl⟩ := List.mem_map.mp hu
  rw [tl_one]
  exact ⟨by show 1 ≤ 20; decide, fun d hd => by rw [List.mem_singleton.mp hd]; exact h c hc⟩
def intD (ns : List Int) : PyData := .list (ns.map PyData.int)
theorem int_dpAll {K : PySem.W.Frag} {H : Hp} : ∀ ns : List Int, DpAll K H (ns.map V.int) (ns.map PyData.int)
  | [] => .nil
  | x :: r => .cons (.int _) (int_dpAll r)
theorem int_dp {K : PySem.W.Frag} {H : Hp} {a : Addr} {ns : List Int} (h : SqL K H a (ns.map V.int)) : Dp K H (.ref a) (intD ns) := .lst h (int_dpAll ns)
theorem int_ok : ∀ ns : List Int, PyData.canLayAll0 (ns.map PyData.int) = true ∧ PyData.depthAll (ns.map PyData.int) = 0
  | [] => ⟨rfl, rfl⟩
  | x :: r => by
    obtain ⟨h1, h2⟩ := int_ok r
    rw [List.map_cons]
    exact ⟨by simp only [PyData.canLayAll0, PyData.canLay0, h1, Bool.and_self], by simp only [PyData.depthAll, PyData.depth, h2]; rfl⟩
theorem int_shaped (ns : List Int) : SeqAt.shaped (intD ns) = true := by
  obtain ⟨h1, h2⟩ := int_ok ns
  unfold SeqAt.shaped intD
  rw [Bool.and_eq_true]
  exact ⟨by simp only [PyData.canLay0, h1], decide_eq_true (by simp only [PyData.depth, h2]; omega)⟩
theorem int_eqv_nil (ns : List Int) : PyData.eqv (intD ns) (.list []) = ns.isEmpty := by
  unfold intD
  cases ns <;> simp [PyData.eqv, PyData.eqvAll]
theorem fs_eqv : ∀ fs gs : List Fc, PyData.eqvAll (fs.map fD) (gs.map fD) = decide (fs = gs)
  | [], [] => rfl
  | [], _ :: _ => by simp [PyData.eqvAll]
  | _ :: _, [] => by simp [PyData.eqvAll]
  | f :: fs, g :: gs => by
    rw [List.map_cons, List.map_cons]
    simp only [PyData.eqvAll]
    rw [fD_eqv, fs_eqv fs gs, Bool.eq_iff_iff]
    simp
theorem pD_eqv (fs gs : List Fc) : PyData.eqv (pD fs) (pD gs) = decide (fs = gs) := by
  unfold pD
  simp only [PyData.eqv]
  exact fs_eqv fs gs
theorem pD_shaped {z : Str} (al : Alph z) {fs : List Fc} (h : ∀ f ∈ fs, FOk z f) : SeqAt.shaped (pD fs) = true := by
  obtain ⟨h1, h2⟩ := lay_fs al fs h
  unfold SeqAt.shaped pD
  rw [Bool.and_eq_true]
  refine ⟨by simp only [PyData.canLay0, h1], decide_eq_true ?_⟩
  simp only [PyData.depth]
  omega
theorem atI_of {α : Type} {xs : List α} {i : Int} {j : Nat} {v : α} (e : i = (j : Int)) (h : xs[j]? = some v) : atI xs i = some v := by
  rw [e]
  exact atI_nat h
end DW
/-! reduced products: the stack, its words, and what put-in factors do to it -/
namespace DW
open PySem PySem.Spec PyProof.Rows L2 TL
set_option autoImplicit false
/-- the kept factors, the last one first, after one factor more -/
def stp (st : List Fc) (f : Fc) : List Fc := match st.dropWhile (sw f) with
  | [] => [f]
  | g :: r => if sw g f = true then g :: r else f :: g :: r
def red (fs : List Fc) : List Fc := (fs.foldl stp []).reverse
/-! ### words -/
theorem Lg.in_one {g : Fc} {u : List Nat} (h : Lg [g] u) : ∀ c ∈ u, c ∈ ls g := by
  intro c hc
  obtain ⟨a, b, rfl⟩ := List.append_of_mem hc
  obtain ⟨g', hg, q⟩ := (Lg.drop h).has
  rw [List.mem_singleton.mp hg] at q
  exact q
theorem sw_star {g f : Fc} (h : sw g f = true) : g.1 = true := (Bool.and_eq_true_iff.mp h).1
theorem sw_sub {g f : Fc} (h : sw g f = true) : ∀ c ∈ ls f, c ∈ ls g := fun c hc => of_decide_eq_true (List.all_eq_true.mp (Bool.and_eq_true_iff.mp h).2 c hc)
theorem sw_of {g f : Fc} (k : g.1 = true) (h : ∀ c ∈ ls f, c ∈ ls g) : sw g f = true := Bool.and_eq_true_iff.mpr ⟨k, List.all_eq_true.mpr fun c hc => decide_eq_true (h c hc)⟩
theorem sw_trans {g s m : Fc} (h : sw g s = true) (k : sw s m = true) : sw g m = true := sw_of (sw_star h) fun c hc => sw_sub h c (sw_sub k c hc)
theorem lg_cong {a b x y : List Fc} (h : ∀ u, Lg x u ↔ Lg y u) (w : List Nat) : Lg (a ++ (x ++ b)) w ↔ Lg (a ++ (y ++ b)) w := by
  constructor
  · intro q
    obtain ⟨u, v, rfl, h1, h2⟩ := q.split
    obtain ⟨u', v', rfl, h3, h4⟩ := h2.split
    exact h1.app (((h u').mp h3).app h4)
  · intro q
    obtain ⟨u, v, rfl, h1, h2⟩ := q.split
    obtain ⟨u', v', rfl, h3, h4⟩ := h2.split
    exact h1.app (((h u').mpr h3).app h4)
theorem lg_front {f g : Fc} (h : sw f g = true) (u : List Nat) : Lg [g, f] u ↔ Lg [f] u := by
  constructor
  · intro q
    obtain ⟨a, b, rfl, h1, h2⟩ := Lg.split (fs := [g]) (gs := [f]) q
    rw [Lg.one_star (sw_star h)] at h2 ⊢
    intro c hc
    rcases List.mem_append.mp hc with z | z
    · exact sw_sub h c (h1.in_one c z)
    · exact h2 c z
  · intro q
    exact .skip q
theorem lg_back {f g : Fc} (h : sw g f = true) (u : List Nat) : Lg [g, f] u ↔ Lg [g] u := by
  constructor
  · intro q
    obtain ⟨a, b, rfl, h1, h2⟩ := Lg.split (fs := [g]) (gs := [f]) q
    rw [Lg.one_star (sw_star h)] at h1 ⊢
    intro c hc
    rcases List.mem_append.mp hc with z | z
    · exact h1 c z
    · exact sw_sub h c (h2.in_one c z)
  · intro q
    have := q.app (Lg.empty [f])
    rw [List.append_nil] at this
    exact this
theorem lg_drop (f : Fc) (b : List Fc) (w : List Nat) : ∀ st : List Fc, Lg (st.reverse ++ ([f] ++ b)) w ↔ Lg ((st.dropWhile (sw f)).reverse ++ ([f] ++ b)) w
  | [] => Iff.rfl
  | g :: st => by
    rw [List.dropWhile_cons]
    by_cases h : sw f g = true
    · rw [if_pos h, ← lg_drop f b w st, List.reverse_cons, List.append_assoc]
      have := lg_cong (a := st.reverse) (b := b) (lg_front h) w
      exact this
    · rw [if_neg h]
theorem stp_lg (f : Fc) (b st : List Fc) (w : List Nat) : Lg (st.reverse ++ (f :: b)) w ↔ Lg ((stp st f).reverse ++ b) w := by
  have e := lg_drop f b w st
  rw [show ([f] ++ b) = f :: b from rfl] at e
  rw [e]
  unfold stp
  cases q : st.dropWhile (sw f) with
  | nil => exact Iff.rfl
  | cons g r =>
    show _ ↔ Lg ((if sw g f = true then g :: r else f :: g :: r).reverse ++ b) w
    by_cases h : sw g f = true
    · rw [if_pos h, List.reverse_cons, List.append_assoc, List.append_assoc]
      exact lg_cong (a := r.reverse) (b := b) (lg_back h) w
    · rw [if_neg h]
      simp
theorem fold_lg (w : List Nat) : ∀ (fs st : List Fc), Lg (st.reverse ++ fs) w ↔ Lg (fs.foldl stp st).reverse w
  | [], st => by rw [List.append_nil]; rfl
  | f :: fs, st => by
    rw [stp_lg f fs st w]
    exact fold_lg w fs (stp st f)
theorem red_lg (fs : List Fc) (w : List Nat) : Lg fs w ↔ Lg (red fs) w := fold_lg w fs []
/-! ### neighbours -/
def Apart : List Fc → Prop
  | [] => True
  | [_] => True
  | f :: g :: r => sw f g = false ∧ sw g f = false ∧ Apart (g :: r)
theorem Apart.tail {f : Fc} {r : List Fc} (h : Apart (f :: r)) : Apart r := by
  cases r with
  | nil => trivial
  | cons g r => exact h.2.2
theorem Apart.dw (p : Fc → Bool) : ∀ {st : List Fc}, Apart st → Apart (st.dropWhile p)
  | [], _ => trivial
  | g :: st, h => by
    rw [List.dropWhile_cons]
    by_cases q : p g = true
    · rw [if_pos q]
      exact Apart.dw p h.tail
    · rw [if_neg q]
      exact h
theorem dw_top {p : Fc → Bool} : ∀ {st r : List Fc} {g : Fc}, st.dropWhile p = g :: r → p g = false
  | [], _, _, h => by cases h
  | x :: st, r, g, h => by
    rw [List.dropWhile_cons] at h
    by_cases q : p x = true
    · rw [if_pos q] at h
      exact dw_top h
    · rw [if_neg q] at h
      rw [← (List.cons.inj h).1]
      simpa using q
theorem stp_apart {st : List Fc} {f : Fc} (h : Apart st) : Apart (stp st f) := by
  unfold stp
  have h' := h.dw (sw f)
  cases q : st.dropWhile (sw f) with
  | nil => trivial
  | cons g r =>
    rw [q] at h'
    show Apart (if sw g f = true then g :: r else f :: g :: r)
    by_cases k : sw g f = true
    · rw [if_pos k]
      exact h'
    · rw [if_neg k]
      exact ⟨dw_top q, by simpa using k, h'⟩
theorem fold_apart : ∀ (fs st : List Fc), Apart st → Apart (fs.foldl stp st)
  | [], _, h => h
  | f :: fs, st, h => fold_apart fs (stp st f) (stp_apart h)
theorem stp_push {f : Fc} {r : List Fc} (h : Apart (f :: r)) : stp r f = f :: r := by
  unfold stp
  cases r with
  | nil => rfl
  | cons g r =>
    rw [List.dropWhile_cons, if_neg (by rw [h.1]; simp)]
    show (if sw g f = true then _ else _) = _
    rw [if_neg (by rw [h.2.1]; simp)]
theorem fold_rev : ∀ l : List Fc, Apart l → l.reverse.foldl stp [] = l
  | [], _ => rfl
  | f :: r, h => by
    rw [List.reverse_cons, List.foldl_append, fold_rev r h.tail]
    exact stp_push h
theorem red_red (fs : List Fc) : red (red fs) = red fs := by
  unfold red
  rw [fold_rev _ (fold_apart fs [] trivial)]
/-! ### factors put in -/
theorem dw_dw {p q : Fc → Bool} (h : ∀ x, p x = true → q x = true) : ∀ l : List Fc, (l.dropWhile p).dropWhile q = l.dropWhile q
  | [] => rfl
  | x :: l => by
    rw [List.dropWhile_cons (p := p)]
    by_cases k : p x = true
    · rw [if_pos k, dw_dw h l, List.dropWhile_cons, if_pos (h x k)]
    · rw [if_neg k]
theorem pad_front {s m : Fc} (h : sw s m = true) (st : List Fc) : stp (stp st m) s = stp st s := by
  have e : (stp st m).dropWhile (sw s) = st.dropWhile (sw s) := by
    have d := dw_dw (p := sw m) (q := sw s) (fun x hx => sw_trans h hx) st
    rw [← d]
    unfold stp
    cases q : st.dropWhile (sw m) with
    | nil =>
      show [m].dropWhile (sw s) = _
      rw [List.dropWhile_cons, if_pos h]
    | cons g r =>
      show (if sw g m = true then g :: r else m :: g :: r).dropWhile (sw s) = _
      by_cases k : sw g m = true
      · rw [if_pos k]
      · rw [if_neg k, List.dropWhile_cons, if_pos h]
  unfold stp at e ⊢
  rw [e]
theorem pad_back {s m : Fc} {st : List Fc} (h : sw s m = true) (ha : Apart st) (anti : ∀ x ∈ stp st s, sw m x = true → sw x m = true → m = x) : stp (stp st s) m = stp st s := by
  have hA : Apart (stp st s) := stp_apart ha
  obtain ⟨g, r, e, k⟩ : ∃ g r, stp st s = g :: r ∧ sw g m = true := by
    unfold stp
    cases q : st.dropWhile (sw s) with
    | nil => exact ⟨s, [], rfl, h⟩
    | cons g r =>
      by_cases k : sw g s = true
      · exact ⟨g, r, if_pos k, sw_trans k h⟩
      · exact ⟨s, g :: r, if_neg k, h⟩
  rw [e] at hA anti ⊢
  by_cases q : sw m g = true
  · have em := anti g List.mem_cons_self q k
    subst em
    have e2 : stp (m :: r) m = stp r m := by
      unfold stp
      rw [List.dropWhile_cons, if_pos q]
    rw [e2]
    exact stp_push hA
  · unfold stp
    rw [List.dropWhile_cons, if_neg q]
    show (if sw g m = true then _ else _) = _
    rw [if_pos k]
theorem red_front {s m : Fc} (h : sw s m = true) (a b : List Fc) : red (a ++ m :: s :: b) = red (a ++ s :: b) := by
  unfold red
  rw [List.foldl_append, List.foldl_append]
  show (b.foldl stp (stp (stp (a.foldl stp []) m) s)).reverse = _
  rw [pad_front h]
  rfl
theorem red_back {s m : Fc} (h : sw s m = true) (a b : List Fc) (anti : ∀ x ∈ stp (a.foldl stp []) s, sw m x = true → sw x m = true → m = x) : red (a ++ s :: m :: b) = red (a ++ s :: b) := by
  unfold red
  rw [List.foldl_append, List.foldl_append]
  show (b.foldl stp (stp (stp (a.foldl stp []) s) m)).reverse = _
  rw [pad_back h (fold_apart a [] trivial) anti]
  rfl
/-! ### nothing new is kept -/
theorem stp_mem {f : Fc} {st : List Fc} {x : Fc} (h : x ∈ stp st f) : x = f ∨ x ∈ st := by
  unfold stp at h
  have dm : ∀ y, y ∈ st.dropWhile (sw f) → y ∈ st := fun y hy => (List.dropWhile_sublist _).subset hy
  cases q : st.dropWhile (sw f) with
  | nil =>
    rw [q] at h
    exact .inl (List.mem_singleton.mp h)
  | cons g r =>
    rw [q] at h dm
    have h' : x ∈ (if sw g f = true then g :: r else f :: g :: r) := h
    by_cases k : sw g f = true
    · rw [if_pos k] at h'
      exact .inr (dm x h')
    · rw [if_neg k] at h'
      rcases List.mem_cons.mp h' with z | z
      · exact .inl z
      · exact .inr (dm x z)
theorem fold_mem : ∀ (fs st : List Fc) (x : Fc), x ∈ fs.foldl stp st → x ∈ fs ∨ x ∈ st
  | [], _, _, h => .inr h
  | f :: fs, st, x, h => by
    rcases fold_mem fs (stp st f) x h with q | q
    · exact .inl (List.mem_cons_of_mem _ q)
    · rcases stp_mem q with z | z
      · exact .inl (z ▸ List.mem_cons_self)
      · exact .inr z
theorem red_mem {fs : List Fc} {x : Fc} (h : x ∈ red fs) : x ∈ fs := by
  rcases fold_mem fs [] x (List.mem_reverse.mp h) with q | q
  · exact q
  · cases q
end DW
/-! is_ascending, is_alphabet, is_word -/
namespace DW
open PySem PySem.Spec PyProof.Rows L2 TL
set_option autoImplicit false
def ascB (l : List Nat) : Bool := (l.zip (l.drop 1)).all fun p => decide (p.1 < p.2)
def lowB (c : Nat) : Bool := decide (97 ≤ c) && decide (c ≤ 122)
def alphB (l : List Nat) : Bool := decide (1 ≤ l.length) && decide (l.length ≤ 3) && (l.all lowB && ascB l)
theorem lt1 (c d : Nat) : decide ([c] < [d]) = decide (c < d) := by
  rw [decide_eq_decide]
  constructor
  · intro h
    rcases List.cons_lt_cons_iff.mp h with q | q
    · exact q
    · exact absurd q.2 (List.not_lt_nil _)
  · intro h
    exact List.cons_lt_cons_iff.mpr (.inl h)
theorem low_eq (c : Nat) : (if (!decide (([c] : List Nat) < [97])) = true then !decide (([122] : List Nat) < [c]) else false) = lowB c := by
  rw [lt1, lt1]
  unfold lowB
  by_cases h : c < 97
  · rw [decide_eq_true h]
    simp
    omega
  · rw [decide_eq_false h]
    simp
    by_cases g : 122 < c
    · rw [decide_eq_true g, decide_eq_true (by omega : 97 ≤ c), decide_eq_false (by omega : ¬ c ≤ 122)]
      rfl
    · rw [decide_eq_false g, decide_eq_true (by omega : 97 ≤ c), decide_eq_true (by omega : c ≤ 122)]
      rfl
/-- not a text -/
def NoS (K : PySem.W.Frag) (H : Hp) (v : V) : Prop := ∃ t, TyX K H v t ∧ PySem.W.kitOne K t (.type "str") = some false
theorem isi_kit {K : PySem.W.Frag} : PySem.W.kitOne K (.type "str") (.type "str") = some true := kit_ty (by decide +kernel)
def spAsc : Sp := fun vs H Q _ => ∃ (x : Str), vs = [.str x] ∧ (tl x).length ≤ 100000 ∧ ∀ H', Same H H' → Q (.bl (ascB (tl x))) H'
def spAlp (K : PySem.W.Frag) : Sp := fun vs H Q _ => ∃ v : V, vs = [v] ∧ ((∃ x : Str, v = .str x ∧ (tl x).length ≤ 100000 ∧ ∀ H', Same H H' → Q (.bl (alphB (tl x))) H') ∨ (NoS K H v ∧ ∀ H', Same H H' → Q (.bl false) H'))
def spIw (K : PySem.W.Frag) : Sp := fun vs H Q _ => ∃ (z : Str) (v : V), vs = [.str z, v] ∧ ((∃ x : Str, v = .str x ∧ (tl x).length ≤ 100000 ∧ ∀ H', Same H H' → Q (.bl ((tl x).all fun c => decide (c ∈ tl z))) H') ∨ (NoS K H v ∧ ∀ H', Same H H' → Q (.bl false) H'))
theorem cut1 (x : Str) : tl (cutS x (some 1) none) = (tl x).drop 1 := by
  show (x.cps.toList.drop (HT.sIx x.length 0 (some 1))).take (HT.sIx x.length x.length none - HT.sIx x.length 0 (some 1)) = x.cps.toList.drop 1
  rw [show HT.sIx x.length 0 (some 1) = min 1 x.length from HT.sIx_nat x.length 0 1, HT.sIx_none]
  have e : x.length = x.cps.toList.length := (Array.length_toList).symm
  by_cases h : 1 ≤ x.length
  · rw [show min 1 x.length = 1 by omega]
    exact List.take_of_length_le (by rw [List.length_drop]; omega)
  · have h0 : x.cps.toList = [] := List.length_eq_zero_iff.mp (by omega)
    rw [h0]
    simp
section
variable {P : Program} {w : World} {K : PySem.W.Frag} {mg : Str → Option Value} {base : Heap}
theorem scAsc : FnScope ["letters", "one", "other"] ["letters"] (defScope sIsAscending) := ⟨rfl, rfl, rfl, by decide +kernel, rfl, by decide +kernel, by decide +kernel⟩
theorem ok_asc (D : Df K mg "is_ascending" sIsAscending ["letters"]) (ma : mg "all" = none) (mz : mg "zip" = none) : FnOk P w K mg base CX0 1 D.f D.fd ["letters"] spAsc := by
  refine D.F.ok scAsc (fun vs H Q E h => ?_) (fun cdv A outer s H vs Q E hr h => ?_)
  · obtain ⟨x, rfl, _⟩ := h
    rfl
  · obtain ⟨x, rfl, xl, k⟩ := h
    have sz : ∀ y : Str, y.length = (tl y).length := fun y => (Array.length_toList).symm
    refine ⟨_, (pss_one (ps_ret (pe_callB (cr_all rfl) (by rfl) ma (by decide +kernel) (pa_cons (pe_lc (own := [("one", 1), ("other", 2)]) (g := gTup K 2 (gCons (gName 1) (gCons (gName 2) gNil))) rfl scAsc.nd (ZX.pi_zipX (by rfl) mz (pa_cons (pv 0) (pa_cons (pe_slice sl_str (pv 0) (po_some pe_int) po_none) pa_nil))) (blkOk_by (N := ["letters", "one", "other"]) (sc := defScope sIsAscending) (by decide +kernel)) (fun _ _ _ _ _ => pg_tup rfl (pgs_cons (pg_name (i := 1) scAsc.nd rfl (.inl rfl)) (pgs_cons (pg_name (i := 2) scAsc.nd rfl (.inl rfl)) pgs_nil))) (fun _ _ _ _ _ => pts_nil) (fun _ _ _ _ _ => (pe_cmpR op_lt_str (pv 1) (pv 2) (nomark _)))) pa_nil)))), ?_⟩
    refine ⟨.str x, rfl, .str x, rfl, 1, rfl, ?_⟩
    unfold tNoPart
    refine ⟨x, rfl, by rw [sz, sizeLine_eq]; omega, x, _, rfl, fun L hL => ?_⟩
    have e1 := cut1 x
    generalize hy : cutS x (some 1) none = y at e1 ⊢
    have xs : x.cps.size = (tl x).length := (Array.length_toList).symm
    have ys : y.cps.size = (tl y).length := (Array.length_toList).symm
    have sL := same_upd (o := .lst []) hL
    refine lc_it ZX.walk_zipX (fun i H' => ∃ bs : List Bool, H' L = some (.lst (bs.map V.bl)) ∧ bs = (((tl x).zip (tl y)).take i).map (fun p => decide (p.1 < p.2)) ∧ Same H H') ⟨[], upd_same, rfl, sL⟩ (fun _ _ _ _ => trivial) ?_ ?_
    · rintro i v G G' hi ⟨bs, gL, be, sm⟩ ⟨T, c, d, rfl, hT, rfl, hc, hd⟩
      have sT := same_upd (o := .tup [.str ⟨#[c]⟩, .str ⟨#[d]⟩]) hT
      have hc' : (tl x)[i]? = some c := by rw [Array.getElem?_toList]; exact hc
      have hd' : (tl y)[i]? = some d := by rw [Array.getElem?_toList]; exact hd
      have hz : ((tl x).zip (tl y))[i]? = some (c, d) := List.getElem?_zip_eq_some.mpr ⟨hc', hd'⟩
      refine ⟨T, _, rfl, SqT.of upd_same, rfl, _, _, rfl, _, _, rfl, rfl, rfl, yes ?_⟩
      refine ⟨_, rfl, _, rfl, _, _, rfl, rfl, _, sT _ _ gL, ?_, bs ++ [decide (c < d)], ?_, ?_, fun b o e => (upd_ne (ne_of_none e hL)).trans ((sm.trans sT) _ _ e)⟩
      · rw [List.length_map, be, List.length_map, List.length_take, sizeLine_eq]
        omega
      · rw [upd_same, List.map_append]
        show some (HO.lst (_ ++ [V.bl (decide ([c] < [d]))])) = _
        rw [lt1]
        rfl
      · rw [be, List.take_add_one, hz, List.map_append]
        rfl
    · rintro G ⟨bs, gL, be, sm⟩
      refine ⟨L, bs, rfl, SqL.of gL, ?_⟩
      have e2 : bs.all id = ascB (tl x) := by
        rw [be, xs, ys, List.take_of_length_le (by rw [List.length_zip]; omega), List.all_map, e1]
        rfl
      rw [e2]
      exact k _ sm
theorem scIw : FnScope ["alphabet", "thing", "letter"] ["alphabet", "thing"] (defScope sIsWord) := ⟨rfl, rfl, rfl, by decide +kernel, rfl, by decide +kernel, by decide +kernel⟩
theorem ok_iw (D : Df K mg "is_word" sIsWord ["alphabet", "thing"]) (ma : mg "all" = none) (mi : mg "isinstance" = none) (ms : mg "str" = none) : FnOk P w K mg base CX0 1 D.f D.fd ["alphabet", "thing"] (spIw K) := by
  refine D.F.ok scIw (fun vs H Q E h => ?_) (fun cdv A outer s H vs Q E hr h => ?_)
  · obtain ⟨z, x, rfl, _⟩ := h
    rfl
  · obtain ⟨z, v, rfl, h⟩ := h
    refine ⟨_, (pss_one (ps_ret (pe_and (pe_callB call_isi (by rfl) mi (by decide +kernel) (pa_cons (pv 1) (pa_cons (pe_bltn (v := V.ty "str") (by rfl) ms (by decide +kernel : bootBuiltins "str" = some (.type "str")) rfl) pa_nil))) (pe_one (pe_callB (cr_all rfl) (by rfl) ma (by decide +kernel) (pa_cons (pe_lc (own := [("letter", 2)]) (g := gName 2) rfl scIw.nd (pi_str (pv 1)) (blkOk_by (N := ["alphabet", "thing", "letter"]) (sc := defScope sIsWord) (by decide +kernel)) (fun _ _ _ _ _ => pg_name (i := 2) scIw.nd rfl (Or.inl rfl)) (fun _ _ _ _ _ => pts_nil) (fun _ _ _ _ _ => (pe_cmpR op_in_sign (pv 2) (pv 0) rfl))) pa_nil)))))), ?_⟩
    rcases h with ⟨x, rfl, xl, k⟩ | ⟨⟨t, ty, kt⟩, k⟩
    · have xs : x.cps.size = (tl x).length := (Array.length_toList).symm
      refine ⟨.str x, rfl, _, _, _, _, true, rfl, .ty "str", .base (.str x), isi_kit, true, rfl, ?_⟩
      refine iteT ?_
      refine ⟨.str x, rfl, x, rfl, fun L hL => ?_⟩
      have sL := same_upd (o := .lst []) hL
      refine lc_it walk_str (fun i H' => ∃ bs : List Bool, H' L = some (.lst (bs.map V.bl)) ∧ bs = ((tl x).take i).map (fun c => decide (c ∈ tl z)) ∧ Same H H') ⟨[], upd_same, rfl, sL⟩ (fun _ _ _ _ => trivial) ?_ ?_
      · rintro i v G G' hi ⟨bs, gL, be, sm⟩ ⟨rfl, c, hc, rfl⟩
        have hc' : (tl x)[i]? = some c := by rw [Array.getElem?_toList]; exact hc
        refine ⟨rfl, yes ?_⟩
        refine ⟨_, rfl, .str z, rfl, c, z, rfl, rfl, _, gL, ?_, bs ++ [decide (c ∈ tl z)], ?_, ?_, fun b o e => (upd_ne (ne_of_none e hL)).trans (sm _ _ e)⟩
        · rw [List.length_map, be, List.length_map, List.length_take, sizeLine_eq]
          omega
        · rw [upd_same, List.map_append]
          rfl
        · rw [be, List.take_add_one, hc', List.map_append]
          rfl
      · rintro G ⟨bs, gL, be, sm⟩
        refine ⟨L, bs, rfl, SqL.of gL, ?_⟩
        have e2 : bs.all id = (tl x).all fun c => decide (c ∈ tl z) := by
          rw [be, xs, List.take_length, List.all_map]
          rfl
        rw [e2]
        exact k _ sm
    · refine ⟨v, rfl, _, _, _, _, false, rfl, .ty "str", ty, kt, false, rfl, ?_⟩
      exact k _ (Same.refl H)
end
end DW
/-! is_factor and is_product of any object -/
namespace DW
open PySem PySem.Spec PyProof.Rows L2 TL
set_option autoImplicit false
theorem sqT_ty {K : PySem.W.Frag} {H : Hp} {a : Addr} {xs : List V} (h : SqT K H a xs) : TyX K H (.ref a) (.type "tuple") := by
  rcases h with (h | ⟨o, h⟩) | ⟨o, its, n, h, c, _⟩
  · exact .base (.tup h)
  · exact .fTuple h
  · exact .kTuple h c
theorem tup_kit {K : PySem.W.Frag} : PySem.W.kitOne K (.type "tuple") (.type "tuple") = some true := kit_ty (by decide +kernel)
theorem kdo (b : Bool) : decide (V.str (kd b) = V.str "opt") = !b := by
  cases b
  · exact decide_eq_true rfl
  · exact decide_eq_false (by unfold kd; decide +kernel)
theorem kds (b : Bool) : decide (V.str (kd b) = V.str "star") = b := by
  cases b
  · exact decide_eq_false (by unfold kd; decide +kernel)
  · exact decide_eq_true rfl
/-- not a tuple -/
def NoT (K : PySem.W.Frag) (H : Hp) (v : V) : Prop := ∃ t, TyX K H v t ∧ PySem.W.kitOne K t (.type "tuple") = some false
/-- is it a factor: its kind, its letters -/
def facB (z : Str) (k : V) (x : Str) : Bool := (tl x).all (fun c => decide (c ∈ tl z)) && (if decide (k = .str "opt") = true then decide ((tl x).length = 1) else (decide (k = .str "star") && (decide (0 < (tl x).length) && ascB (tl x))))
inductive ObB (K : PySem.W.Frag) (H : Hp) (z : Str) : V → Bool → Prop where
  | no {v : V} (h : NoT K H v) : ObB K H z v false
  | len {a : Addr} {xs : List V} (h : SqT K H a xs) (n : xs.length ≠ 2) : ObB K H z (.ref a) false
  | nos {a : Addr} {k l : V} (h : SqT K H a [k, l]) (n : NoS K H l) : ObB K H z (.ref a) false
  | fac {a : Addr} {k : V} {x : Str} (h : SqT K H a [k, .str x]) (s : ∀ y, scal k (.str y) = true) (xl : (tl x).length ≤ 100000) : ObB K H z (.ref a) (facB z k x)
inductive ObBs (K : PySem.W.Frag) (H : Hp) (z : Str) : List V → List Bool → Prop where
  | nil : ObBs K H z [] []
  | cons {v : V} {b : Bool} {vs : List V} {bs : List Bool} (h : ObB K H z v b) (r : ObBs K H z vs bs) : ObBs K H z (v :: vs) (b :: bs)
theorem ObBs.len {K : PySem.W.Frag} {H : Hp} {z : Str} : ∀ {vs : List V} {bs : List Bool}, ObBs K H z vs bs → vs.length = bs.length
  | _, _, .nil => rfl
  | _, _, .cons _ r => by rw [List.length_cons, List.length_cons, r.len]
theorem ObBs.get {K : PySem.W.Frag} {H : Hp} {z : Str} : ∀ {vs : List V} {bs : List Bool}, ObBs K H z vs bs → ∀ (i : Nat) (v : V), vs[i]? = some v → ∃ b, bs[i]? = some b ∧ ObB K H z v b
  | _, _, .nil, i, v, h => by simp at h
  | _, _, .cons a r, 0, v, h => by
    have e := Option.some.inj h
    subst e
    exact ⟨_, rfl, a⟩
  | _, _, .cons a r, i + 1, v, h => r.get i v h
theorem tyX_same {K : PySem.W.Frag} {H H' : Hp} {v : V} {t : Value} (s : Same H H') (h : TyX K H v t) : TyX K H' v t := by
  cases h with
  | base b =>
    refine .base ?_
    cases b with
    | non => exact .non
    | bl y => exact .bl y
    | int i => exact .int i
    | str y => exact .str y
    | flt y => exact .flt y
    | lst e => exact .lst (s _ _ e)
    | frz e => exact .frz (s _ _ e)
    | tup e => exact .tup (s _ _ e)
    | dK e => exact .dK (s _ _ e)
    | dT e => exact .dT (s _ _ e)
    | ins e a b c d f => exact .ins (s _ _ e) a b c d f
  | byt b => exact .byt b
  | set e => exact .set (s _ _ e)
  | kList e c => exact .kList e c
  | kTuple e c => exact .kTuple e c
  | kDict e c => exact .kDict e c
  | fTuple e => exact .fTuple (s _ _ e)
  | fDict e => exact .fDict (s _ _ e)
theorem ObB.same {K : PySem.W.Frag} {H H' : Hp} {z : Str} {v : V} {b : Bool} (s : Same H H') (h : ObB K H z v b) : ObB K H' z v b := by
  cases h with
  | no h =>
    obtain ⟨t, ty, kt⟩ := h
    exact .no ⟨t, tyX_same s ty, kt⟩
  | len h n => exact .len (same_tup s _ _ h) n
  | nos h n =>
    obtain ⟨t, ty, kt⟩ := n
    exact .nos (same_tup s _ _ h) ⟨t, tyX_same s ty, kt⟩
  | fac h sc xl => exact .fac (same_tup s _ _ h) sc xl
/-- what is told of an object that may be a product -/
inductive PrB (K : PySem.W.Frag) (H : Hp) (z : Str) : V → Bool → Prop where
  | no {v : V} (h : NoT K H v) : PrB K H z v false
  | tup {a : Addr} {xs : List V} {bs : List Bool} (h : SqT K H a xs) (o : ObBs K H z xs bs) (l : bs.length ≤ 100000) : PrB K H z (.ref a) (bs.all id)
def spIf (K : PySem.W.Frag) : Sp := fun vs H Q _ => ∃ (z : Str) (v : V) (b : Bool), vs = [.str z, v] ∧ ObB K H z v b ∧ ∀ H', Same H H' → Q (.bl b) H'
def spIp (K : PySem.W.Frag) : Sp := fun vs H Q _ => ∃ (z : Str) (v : V) (b : Bool), vs = [.str z, v] ∧ PrB K H z v b ∧ ∀ H', Same H H' → Q (.bl b) H'
theorem ascB_of {l : List Nat} (h : l.Pairwise (· < ·)) : ascB l = true := by
  induction l with
  | nil => rfl
  | cons a l ih =>
    cases l with
    | nil => rfl
    | cons b r =>
      obtain ⟨h1, h2⟩ := List.pairwise_cons.mp h
      show (decide (a < b) && ascB (b :: r)) = true
      rw [ih h2, decide_eq_true (h1 b List.mem_cons_self)]
      rfl
/-- a factor that was drawn is one -/
theorem IsF.ob {K : PySem.W.Frag} {H : Hp} {z : Str} {v : V} {f : Fc} (h : IsF K H v f) (fo : FOk z f) (al : Alph z) : ObB K H z v true := by
  obtain ⟨a, rfl, hq⟩ := h
  have fl : (tl f.2).length ≤ 3 := Nat.le_trans fo.2.1.length_le al.2.2.1
  have e : facB z (.str (kd f.1)) f.2 = true := by
    unfold facB
    rw [Bool.and_eq_true]
    refine ⟨List.all_eq_true.mpr fun c hc => decide_eq_true (fo.2.1.subset hc), ?_⟩
    rw [kdo, kds]
    cases q : f.1 with
    | false => exact decide_eq_true (fo.2.2 q)
    | true =>
      rw [ascB_of (al.1.sublist fo.2.1), decide_eq_true (List.length_pos_iff.mpr fo.1)]
      rfl
  have o := ObB.fac (z := z) hq (fun _ => rfl) (Nat.le_trans fl (by decide))
  rw [e] at o
  exact o
theorem IsFs.obs {K : PySem.W.Frag} {H : Hp} {z : Str} (al : Alph z) : ∀ {vs : List V} {fs : List Fc}, IsFs K H vs fs → (∀ f ∈ fs, FOk z f) → ∃ bs, ObBs K H z vs bs ∧ bs.all id = true ∧ bs.length = fs.length
  | _, _, .nil, _ => ⟨[], .nil, rfl, rfl⟩
  | _, _, .cons a r, h => by
    obtain ⟨bs, o, e, l⟩ := r.obs al fun f hf => h f (List.mem_cons_of_mem _ hf)
    refine ⟨true :: bs, .cons (a.ob (h _ List.mem_cons_self) al) o, ?_, by rw [List.length_cons, List.length_cons, l]⟩
    rw [List.all_cons, e]
    rfl
theorem IsP.pr {K : PySem.W.Frag} {H : Hp} {z : Str} {v : V} {fs : List Fc} (al : Alph z) (h : IsP K H v fs) (fo : ∀ f ∈ fs, FOk z f) (l : fs.length ≤ 100000) : PrB K H z v true := by
  obtain ⟨a, xs, rfl, hq, iF⟩ := h
  obtain ⟨bs, o, e, bl⟩ := iF.obs al fo
  rw [← e]
  exact .tup hq o (by rw [bl]; exact l)
section
variable {P : Program} {w : World} {K : PySem.W.Frag} {mg : Str → Option Value} {base : Heap}
structure DfPr (K : PySem.W.Frag) (mg : Str → Option Value) where
  p : Df K mg "is_product" sIsProduct ["alphabet", "thing"]
  f : Df K mg "is_factor" sIsFactor ["alphabet", "thing"]
  w : Df K mg "is_word" sIsWord ["alphabet", "thing"]
  a : Df K mg "is_ascending" sIsAscending ["letters"]
  ma : mg "all" = none
  mz : mg "zip" = none
  mi : mg "isinstance" = none
  ms : mg "str" = none
  mt : mg "tuple" = none
  ml : mg "len" = none
theorem scIf : FnScope ["alphabet", "thing", "kind", "letters"] ["alphabet", "thing"] (defScope sIsFactor) := ⟨rfl, rfl, rfl, by decide +kernel, rfl, by decide +kernel, by decide +kernel⟩
theorem ok_if (D : DfPr K mg) : FnOk P w K mg base CX0 2 D.f.f D.f.fd ["alphabet", "thing"] (spIf K) := by
  have Gw : FnOk P w K mg base CX0 1 D.w.f D.w.fd ["alphabet", "thing"] (spIw K) := ok_iw D.w D.ma D.mi D.ms
  have Ga : FnOk P w K mg base CX0 1 D.a.f D.a.fd ["letters"] spAsc := ok_asc D.a D.ma D.mz
  refine D.f.F.ok scIf (fun vs H Q E h => ?_) (fun cdv A outer s H vs Q E hr h => ?_)
  · obtain ⟨z, v, f, rfl, _⟩ := h
    rfl
  · obtain ⟨z, v, b, rfl, ob, k⟩ := h
    have sz : ∀ y : Str, y.length = (tl y).length := fun y => (Array.length_toList).symm
    have mt := D.mt
    have mi := D.mi
    have ml := D.ml
    refine ⟨_, (pss_cons (ps_if (pw_or (pt_not (pt_val (pe_callB call_isi (by rfl) mi (by decide +kernel) (pa_cons (pv 1) (pa_cons (pe_bltn (v := V.ty "tuple") (by rfl) mt (by decide +kernel : bootBuiltins "tuple" = some (.type "tuple")) rfl) pa_nil))))) (pw_or1 (pt_cmpR op_ne (pe_callB call_len_seq (by rfl) ml PySem.boot_len (pa_cons (pv 1) pa_nil)) pe_int (nomark _)))).pt (pss_one (ps_ret pe_bl)) pss_nil) (pss_cons (ps_asg (pv 1) (pg_tup rfl (pgs_cons (pg_name (i := 2) scIf.nd rfl (.inl rfl)) (pgs_cons (pg_name (i := 3) scIf.nd rfl (.inl rfl)) pgs_nil)))) (pss_cons (ps_if (pt_not (pt_val (pe_call Gw hr (by rfl) D.w.g D.w.F.kp D.w.b .nil pass0 (pa_cons (pv 0) (pa_cons (pv 3) pa_nil))))) (pss_one (ps_ret pe_bl)) pss_nil) (pss_cons (ps_if (pt_cmpR op_eq (pv 2) pe_str (nomark _)) (pss_one (ps_ret (pe_cmpR op_eq (pe_callB call_len_str (by rfl) ml PySem.boot_len (pa_cons (pv 3) pa_nil)) pe_int (nomark _)))) pss_nil) (pss_one (ps_ret (pe_and (pe_cmpR op_eq (pv 2) pe_str (nomark _)) (pe_and (pe_cmpR op_gt (pe_callB call_len_str (by rfl) ml PySem.boot_len (pa_cons (pv 3) pa_nil)) pe_int (nomark _)) (pe_one (pe_call Ga hr (by rfl) D.a.g D.a.F.kp D.a.b .nil pass0 (pa_cons (pv 3) pa_nil))))))))))), ?_⟩
    cases ob with
    | no h =>
      obtain ⟨t, ty, kt⟩ := h
      exact ⟨v, rfl, _, _, _, _, false, rfl, .ty "tuple", ty, kt, false, rfl, iteT (k _ (Same.refl _))⟩
    | @len a xs h n =>
      refine ⟨.ref a, rfl, _, _, _, _, true, rfl, .ty "tuple", sqT_ty h, tup_kit, true, rfl, iteF ?_⟩
      refine ⟨.ref a, rfl, a, _, rfl, .inr h, rfl, _, rfl, ?_⟩
      rw [show (!decide (V.int (xs.length : Int) = V.int 2)) = true by
        rw [decide_eq_false fun e => by
          have := V.int.inj e
          omega]
        rfl]
      exact iteT (k _ (Same.refl _))
    | @nos a kk l h n =>
      refine ⟨.ref a, rfl, _, _, _, _, true, rfl, .ty "tuple", sqT_ty h, tup_kit, true, rfl, iteF ?_⟩
      refine ⟨.ref a, rfl, a, _, rfl, .inr h, rfl, _, rfl, iteF ?_⟩
      refine ⟨.ref a, rfl, a, _, rfl, h, rfl, _, _, rfl, _, _, rfl, rfl, ?_⟩
      refine ⟨.str z, rfl, l, rfl, z, l, rfl, .inr ⟨n, fun H1 s1 => ?_⟩⟩
      exact ⟨_, rfl, iteT (k _ s1)⟩
    | @fac a kk x h sc xl =>
      refine ⟨.ref a, rfl, _, _, _, _, true, rfl, .ty "tuple", sqT_ty h, tup_kit, true, rfl, iteF ?_⟩
      refine ⟨.ref a, rfl, a, _, rfl, .inr h, rfl, _, rfl, iteF ?_⟩
      refine ⟨.ref a, rfl, a, _, rfl, h, rfl, _, _, rfl, _, _, rfl, rfl, ?_⟩
      refine ⟨.str z, rfl, .str x, rfl, z, .str x, rfl, .inl ⟨x, rfl, xl, fun H1 s1 => ?_⟩⟩
      unfold facB at k
      cases q1 : (tl x).all (fun c => decide (c ∈ tl z)) with
      | false =>
        rw [q1] at k
        exact ⟨_, rfl, iteT (k _ s1)⟩
      | true =>
        rw [q1, Bool.true_and] at k
        refine ⟨_, rfl, iteF ?_⟩
        refine ⟨_, rfl, sc _, _, rfl, ?_⟩
        have xsz : x.length ≤ sizeLine := by
          rw [sz, sizeLine_eq]
          omega
        by_cases q2 : decide (kk = V.str "opt") = true
        · rw [if_pos q2] at k
          rw [q2]
          refine iteT ?_
          refine ⟨.str x, rfl, x, rfl, xsz, rfl, ?_⟩
          have e : decide (V.int (x.length : Int) = V.int 1) = decide ((tl x).length = 1) := by
            rw [decide_eq_decide, sz]
            constructor
            · intro e
              have := V.int.inj e
              omega
            · intro e
              rw [e]
              rfl
          rw [e]
          exact k _ s1
        · rw [if_neg q2] at k
          rw [show decide (kk = V.str "opt") = false by simpa using q2]
          refine iteF ?_
          refine ⟨_, rfl, sc _, _, rfl, ?_⟩
          by_cases q3 : decide (kk = V.str "star") = true
          · rw [q3, Bool.true_and] at k
            rw [q3]
            refine iteT ?_
            refine ⟨.str x, rfl, x, rfl, xsz, _, _, rfl, rfl, _, rfl, ?_⟩
            have e : decide ((x.length : Int) > 0) = decide (0 < (tl x).length) := by
              rw [decide_eq_decide, sz]
              omega
            rw [e]
            by_cases q4 : decide (0 < (tl x).length) = true
            · rw [q4, Bool.true_and] at k
              rw [q4]
              refine iteT ?_
              exact ⟨.str x, rfl, x, rfl, xl, fun H2 s2 => k _ (s1.trans s2)⟩
            · rw [show decide (0 < (tl x).length) = false by simpa using q4] at k
              rw [show decide (0 < (tl x).length) = false by simpa using q4]
              exact iteF (k _ s1)
          · rw [show decide (kk = V.str "star") = false by simpa using q3] at k
            rw [show decide (kk = V.str "star") = false by simpa using q3]
            exact iteF (k _ s1)
theorem scIp : FnScope ["alphabet", "thing", "factor"] ["alphabet", "thing"] (defScope sIsProduct) := ⟨rfl, rfl, rfl, by decide +kernel, rfl, by decide +kernel, by decide +kernel⟩
theorem ok_ip (D : DfPr K mg) : FnOk P w K mg base CX0 3 D.p.f D.p.fd ["alphabet", "thing"] (spIp K) := by
  have Gf : FnOk P w K mg base CX0 2 D.f.f D.f.fd ["alphabet", "thing"] (spIf K) := ok_if D
  refine D.p.F.ok scIp (fun vs H Q E h => ?_) (fun cdv A outer s H vs Q E hr h => ?_)
  · obtain ⟨z, v, f, rfl, _⟩ := h
    rfl
  · obtain ⟨z, v, b, rfl, pr, k⟩ := h
    have mt := D.mt
    have mi := D.mi
    have ma := D.ma
    refine ⟨_, (pss_one (ps_ret (pe_and (pe_callB call_isi (by rfl) mi (by decide +kernel) (pa_cons (pv 1) (pa_cons (pe_bltn (v := V.ty "tuple") (by rfl) mt (by decide +kernel : bootBuiltins "tuple" = some (.type "tuple")) rfl) pa_nil))) (pe_one (pe_callB (cr_all rfl) (by rfl) ma (by decide +kernel) (pa_cons (pe_lc (own := [("factor", 2)]) (g := gName 2) rfl scIp.nd (pi_tup (pv 1)) (blkOk_by (N := ["alphabet", "thing", "factor"]) (sc := defScope sIsProduct) (by decide +kernel)) (fun _ _ _ _ _ => pg_name (i := 2) scIp.nd rfl (Or.inl rfl)) (fun _ _ _ _ _ => pts_nil) (fun _ _ _ _ _ => (pe_call Gf hr (by rfl) D.f.g D.f.F.kp D.f.b .nil pass0 (pa_cons (pv 0) (pa_cons (pv 2) pa_nil))))) pa_nil)))))), ?_⟩
    cases pr with
    | no h =>
      obtain ⟨t, ty, kt⟩ := h
      exact ⟨v, rfl, _, _, _, _, false, rfl, .ty "tuple", ty, kt, false, rfl, iteF (k _ (Same.refl _))⟩
    | @tup a xs bs hq o bl =>
      refine ⟨.ref a, rfl, _, _, _, _, true, rfl, .ty "tuple", sqT_ty hq, tup_kit, true, rfl, iteT ?_⟩
      refine ⟨.ref a, rfl, a, rfl, ⟨_, hq⟩, fun L hL => ?_⟩
      have sL := same_upd (o := .lst []) hL
      have xl := o.len
      refine lc_it (walk_tup (xs := xs)) (fun i H' => H' L = some (.lst ((bs.take i).map V.bl)) ∧ Same H H') ⟨upd_same, sL⟩ (fun _ _ _ ⟨_, sm⟩ => same_tup sm _ _ hq) ?_ ?_
      · rintro i v G G' hi ⟨gL, sm⟩ ⟨rfl, hv⟩
        obtain ⟨b, hb, ob⟩ := o.get i v hv
        refine ⟨rfl, yes ?_⟩
        refine ⟨.str z, rfl, v, rfl, z, v, b, rfl, ob.same sm, fun H2 s2 => ?_⟩
        refine ⟨_, s2 _ _ gL, ?_, ?_, fun b o e => (upd_ne (ne_of_none e hL)).trans ((sm.trans s2) _ _ e)⟩
        · rw [List.length_map, List.length_take, sizeLine_eq]
          omega
        · rw [upd_same, List.take_add_one, hb, List.map_append]
          rfl
      · rintro G ⟨gL, sm⟩
        refine ⟨L, _, rfl, SqL.of gL, ?_⟩
        rw [xl, List.take_length]
        exact k _ sm
end
end DW
/-! reduce_product -/
namespace DW
open PySem PySem.Spec PyProof.Rows L2 TL
set_option autoImplicit false
def spRd (K : PySem.W.Frag) : Sp := fun vs H Q _ => ∃ (v : V) (fs : List Fc), vs = [v] ∧ IsP K H v fs ∧ (∀ f ∈ fs, (ls f).length ≤ 1000) ∧ fs.length ≤ 100000 ∧ ∀ H' u, Same H H' → IsP K H' u (red fs) → Q u H'
theorem IsFs.unsnoc {K : PySem.W.Frag} {H : Hp} {g : Fc} : ∀ {fs : List Fc} {vs : List V}, IsFs K H vs (fs ++ [g]) → ∃ us v, vs = us ++ [v] ∧ IsFs K H us fs ∧ IsF K H v g := by
  intro fs
  induction fs with
  | nil =>
    intro vs h
    have h' : IsFs K H vs (g :: []) := h
    cases h' with
    | cons a r =>
      cases r
      exact ⟨[], _, rfl, .nil, a⟩
  | cons f fs ih =>
    intro vs h
    have h' : IsFs K H vs (f :: (fs ++ [g])) := h
    cases h' with
    | cons a r =>
      obtain ⟨us, v, e, h1, h2⟩ := ih r
      exact ⟨_ :: us, v, by rw [e]; rfl, .cons a h1, h2⟩
theorem stp_len (st : List Fc) (f : Fc) : (stp st f).length ≤ st.length + 1 := by
  have h := (List.dropWhile_suffix (l := st) (sw f)).length_le
  unfold stp
  split
  · simp
  · rename_i g r e
    rw [e] at h
    by_cases c : sw g f = true
    · rw [if_pos c]
      omega
    · rw [if_neg c, List.length_cons]
      omega
theorem dw_mem {p : Fc → Bool} {st : List Fc} {g : Fc} {r : List Fc} (e : st.dropWhile p = g :: r) : g ∈ st := (List.dropWhile_suffix (l := st) p).subset (by rw [e]; exact List.mem_cons_self)
section
variable {P : Program} {w : World} {K : PySem.W.Frag} {mg : Str → Option Value} {base : Heap}
theorem scRd : FnScope ["product", "kept", "factor"] ["product"] (defScope sReduceProduct) := ⟨rfl, rfl, rfl, by decide +kernel, rfl, by decide +kernel, by decide +kernel⟩
theorem ok_rd (D : Df K mg "reduce_product" sReduceProduct ["product"]) (Ds0 : Df K mg "swallows" sSwallows ["factor", "other"]) (ma : mg "all" = none) (mt : mg "tuple" = none) : FnOk P w K mg base CX0 2 D.f D.fd ["product"] (spRd K) := by
  have Gs : FnOk P w K mg base CX0 1 Ds0.f Ds0.fd ["factor", "other"] (spSw K) := ok_sw Ds0 ma
  refine D.F.ok scRd (fun vs H Q E h => ?_) (fun cdv A outer s H vs Q E hr h => ?_)
  · obtain ⟨v, fs, rfl, _⟩ := h
    rfl
  · obtain ⟨v, fs, rfl, ⟨a, xs, rfl, hq, iF⟩, fl, l1, k⟩ := h
    refine ⟨_, PSs.nox (pss_cons (ps_set (i := 1) scRd.nd rfl (.inl rfl) (pe_lst pa_nil)) (pss_cons (ps_for PassesOwn.never rfl (pi_tup (pv 0)) (pg_name (i := 2) scRd.nd rfl (.inl rfl)) (C8.pss_cut (ps_while PassesOwn.never (pw_and (pt_truth (pv 1) (by intro _; rfl)) (pw_and1 (pt_val (pe_call Gs hr (by rfl) Ds0.g Ds0.F.kp Ds0.b .nil pass0 (pa_cons (pv 2) (pa_cons (pe_ix ix_list (pv 1) (pe_un un_neg pe_int) (fun _ _ => rfl)) pa_nil)))))).pt (pss_one (ps_expr (pe_bm0 PySem.F.plainAttrs_list PySem.F.slot_list_pop PySem.F.type_list_pop mt_pop (pv 1))))) (pss_one (ps_if (pw_or (pt_not (pt_truth (pv 1) (by intro _; rfl))) (pw_or1 (pt_not (pt_val (pe_call Gs hr (by rfl) Ds0.g Ds0.F.kp Ds0.b .nil pass0 (pa_cons (pe_ix ix_list (pv 1) (pe_un un_neg pe_int) (fun _ _ => rfl)) (pa_cons (pv 2) pa_nil))))))).pt (pss_one (ps_expr (pe_bm PySem.F.plainAttrs_list PySem.F.slot_list_append PySem.F.type_list_append mt_append (pv 1) (pa_cons (pv 2) pa_nil)))) pss_nil)))) (pss_one (ps_ret (pe_callTy call_tuple_of (by rfl) mt (by decide +kernel) (pa_cons (pv 1) pa_nil)))))), ?_⟩
    refine ⟨by show 0 ≤ sizeLine; decide, fun L hL => ?_⟩
    have sL := same_upd (o := .lst []) hL
    have xl := iF.len
    refine ⟨.ref a, rfl, a, rfl, ⟨xs, same_tup sL _ _ hq⟩, for_it (walk_tup (xs := xs)) (fun i σ H' => ∃ (us : List V) (st : List Fc) (y2 : Option V), σ = [some (.ref a), some (.ref L), y2] ∧ H' L = some (.lst us) ∧ IsFs K H' us st.reverse ∧ st = (fs.take i).foldl stp [] ∧ st.length ≤ i ∧ (∀ g ∈ st, g ∈ fs) ∧ Same H H')
      ⟨[], [], _, rfl, upd_same, .nil, rfl, Nat.le_refl _, fun g hg => (nomatch hg), sL⟩ (fun _ _ H' _ ⟨_, _, _, _, _, _, _, _, _, sm⟩ => same_tup sm _ _ hq) ?_ ?_⟩
    · rintro i x σ G G' hi ⟨us, st, y2, rfl, gL, iU, est, stl, stm, sm⟩ ⟨rfl, hx⟩
      obtain ⟨f, hf, isf0⟩ := iF.get i x hx
      have fm : f ∈ fs := List.mem_of_getElem? hf
      have il : i < fs.length := by omega
      refine ⟨fun σ' H' => ∃ us : List V, σ' = [some (.ref a), some (.ref L), some x] ∧ H' L = some (.lst us) ∧ IsFs K H' us (st.dropWhile (sw f)).reverse ∧ Same H H', ?_, ?_⟩
      · refine ⟨fun m σ' H' => ∃ (us : List V) (st' : List Fc), σ' = [some (.ref a), some (.ref L), some x] ∧ H' L = some (.lst us) ∧ IsFs K H' us st'.reverse ∧ st'.dropWhile (sw f) = st.dropWhile (sw f) ∧ (∀ g ∈ st', g ∈ fs) ∧ m = st'.length ∧ Same H H', ⟨_, us, st, rfl, gL, iU, rfl, stm, rfl, sm⟩, ?_⟩
        rintro m σ' H' ⟨us, st', rfl, gL, iU, ed, stm', rfl, sm⟩
        cases st' with
        | nil =>
          cases iU
          refine ⟨.ref L, rfl, false, .inl ⟨_, SqL.of gL, rfl⟩, iteF (iteF ⟨[], rfl, gL, ?_, sm⟩)⟩
          rw [← ed]
          exact .nil
        | cons g r =>
          rw [List.reverse_cons] at iU
          obtain ⟨us0, v, rfl, iU0, isg⟩ := iU.unsnoc
          refine ⟨.ref L, rfl, true, .inl ⟨_, SqL.of gL, by simp⟩, iteT ?_⟩
          have gm := fl g (stm' g List.mem_cons_self)
          refine ⟨x, rfl, .ref L, rfl, 1, rfl, L, us0 ++ [v], -1, v, rfl, rfl, SqL.of gL, atI_last us0 v, x, v, f, g, rfl, isf0.mono (same_tup sm), isg, gm, fun H2 s2 => ⟨_, rfl, ite2 (fun e => ?_) (fun e => ?_)⟩⟩
          · refine ⟨fun σ' H' => ∃ us : List V, σ' = [some (.ref a), some (.ref L), some x] ∧ H' L = some (.lst us) ∧ IsFs K H' us r.reverse ∧ Same H H', fun σ' H' h => ?_, ?_⟩
            · obtain ⟨us, rfl, gL', iU', sm'⟩ := h
              refine ⟨r.length, by simp, us, r, rfl, gL', iU', ?_, fun g hg => stm' g (List.mem_cons_of_mem _ hg), rfl, sm'⟩
              rw [← ed, List.dropWhile_cons, if_pos e]
            · have gL2 := s2 _ _ gL
              refine ⟨.ref L, rfl, .inl ⟨rfl, _, SqL.of gL2⟩, L, us0 ++ [v], v, rfl, rfl, gL2, by simp, us0, rfl, ?_, (iU0.mono (same_tup s2)).mono (upd_tup gL2), fun b o e => (upd_ne (ne_of_none e hL)).trans ((sm.trans s2) _ _ e)⟩
              rw [upd_same, List.dropLast_concat]
          · have e' : sw f g = false := by simpa using e
            refine ⟨us0 ++ [v], rfl, s2 _ _ gL, ?_, sm.trans s2⟩
            rw [← ed, List.dropWhile_cons, if_neg e, List.reverse_cons]
            exact (iU0.snoc isg).mono (same_tup s2)
      · rintro σ' H' ⟨us, rfl, gL, iU, sm⟩
        have tk : (fs.take (i + 1)).foldl stp [] = stp st f := by
          rw [List.take_add_one, hf, est]
          exact List.foldl_append
        have sl := stp_len st f
        have smem : ∀ g ∈ stp st f, g ∈ fs := fun g hg => by
          rcases stp_mem hg with q | q
          · rw [q]; exact fm
          · exact stm g q
        have push : ∀ {H2 : Hp}, H2 L = some (.lst us) → IsFs K H2 us (st.dropWhile (sw f)).reverse → Same H H2 → stp st f = f :: st.dropWhile (sw f) →
            ∃ (us' : List V) (st' : List Fc) (y2 : Option V), [some (V.ref a), some (.ref L), some x] = [some (.ref a), some (.ref L), y2] ∧ (upd H2 L (.lst (us ++ [x]))) L = some (.lst us') ∧ IsFs K (upd H2 L (.lst (us ++ [x]))) us' st'.reverse ∧ st' = (fs.take (i + 1)).foldl stp [] ∧ st'.length ≤ i + 1 ∧ (∀ g ∈ st', g ∈ fs) ∧ Same H (upd H2 L (.lst (us ++ [x]))) := by
          intro H2 gL2 iU2 sm2 e
          refine ⟨us ++ [x], stp st f, _, rfl, upd_same, ?_, tk.symm, by omega, smem, fun b o e => (upd_ne (ne_of_none e hL)).trans (sm2 _ _ e)⟩
          rw [e, List.reverse_cons]
          exact (iU2.snoc (isf0.mono (same_tup sm2))).mono (upd_tup gL2)
        have usl : us.length < sizeLine := by
          rw [iU.len, List.length_reverse, sizeLine_eq]
          have := (List.dropWhile_suffix (l := st) (sw f)).length_le
          omega
        cases ew : st.dropWhile (sw f) with
        | nil =>
          rw [ew] at iU
          cases iU
          refine ⟨.ref L, rfl, false, .inl ⟨_, SqL.of gL, rfl⟩, iteT ?_⟩
          refine iteT ?_
          refine ⟨.ref L, rfl, .inl ⟨rfl, _, SqL.of gL⟩, x, rfl, L, _, _, rfl, rfl, gL, usl, ?_⟩
          refine push gL (by rw [ew]; exact .nil) sm ?_
          unfold stp
          rw [ew]
        | cons g r =>
          rw [ew, List.reverse_cons] at iU
          obtain ⟨us0, v, rfl, iU0, isg⟩ := iU.unsnoc
          refine ⟨.ref L, rfl, true, .inl ⟨_, SqL.of gL, by simp⟩, iteF ?_⟩
          refine ⟨.ref L, rfl, 1, rfl, L, us0 ++ [v], -1, v, rfl, rfl, SqL.of gL, atI_last us0 v, x, rfl, v, x, g, f, rfl, isg, isf0.mono (same_tup sm), fl f fm, fun H2 s2 => ⟨_, rfl, ?_⟩⟩
          have gL2 := s2 _ _ gL
          have iU2 : IsFs K H2 (us0 ++ [v]) (st.dropWhile (sw f)).reverse := by
            rw [ew, List.reverse_cons]
            exact (iU0.snoc isg).mono (same_tup s2)
          refine ite2 (fun e => ?_) (fun e => ?_)
          · have e' : sw g f = false := by simpa using e
            refine ⟨.ref L, rfl, .inl ⟨rfl, _, SqL.of gL2⟩, x, rfl, L, _, _, rfl, rfl, gL2, usl, ?_⟩
            refine push gL2 iU2 (sm.trans s2) ?_
            unfold stp
            rw [ew]
            show (if sw g f = true then _ else _) = _
            rw [if_neg (by rw [e']; simp)]
          · have e' : sw g f = true := by simpa using e
            have est' : stp st f = st.dropWhile (sw f) := by
              unfold stp
              rw [ew]
              show (if sw g f = true then _ else _) = _
              rw [if_pos e']
            refine ⟨us0 ++ [v], stp st f, _, rfl, gL2, ?_, tk.symm, by omega, smem, sm.trans s2⟩
            rw [est']
            exact iU2
    · rintro σ G ⟨us, st, y2, rfl, gL, iU, est, stl, stm, sm⟩
      refine ⟨.ref L, rfl, L, us, rfl, .inl ⟨SqL.of gL, fun p hp => ?_⟩⟩
      have sp := same_upd (o := .tup us) hp
      refine k _ _ (sm.trans sp) ⟨p, us, rfl, SqT.of upd_same, ?_⟩
      have e : red fs = st.reverse := by
        unfold red
        rw [est, xl, List.take_length]
      rw [e]
      exact iU.mono (same_tup sp)
end
end DW
/-! k09: the law's holds and padded -/
namespace DW
open PySem PySem.Spec PyProof.Rows L2 TL
set_option autoImplicit false
theorem fok_anti {z : Str} (al : Alph z) {m x : Fc} (hm : FOk z m) (hx : FOk z x) (a : sw m x = true) (b : sw x m = true) : m = x := by
  have e : tl m.2 = tl x.2 := nat_uniq _ _ (al.1.sublist hm.2.1) (al.1.sublist hx.2.1) fun k => ⟨sw_sub b k, sw_sub a k⟩
  have e1 : m.2 = x.2 := tl_inj e
  have e2 : m.1 = x.1 := (sw_star a).trans (sw_star b).symm
  obtain ⟨m1, m2⟩ := m
  obtain ⟨x1, x2⟩ := x
  simp only at e1 e2
  rw [e1, e2]
theorem pad_red {z : Str} (al : Alph z) {fs : List Fc} (ok : ∀ f ∈ fs, FOk z f) {j d : Nat} {s m : Fc} (hs : fs[j]? = some s) (hm : FOk z m) (h : sw s m = true) (hd : d ≤ 1) : red (fs.take (j + d) ++ [m] ++ fs.drop (j + d)) = red fs := by
  have hj : j < fs.length := (List.getElem?_eq_some_iff.mp hs).1
  have e0 : fs = fs.take j ++ s :: fs.drop (j + 1) := by
    rw [← drop_at hs, List.take_append_drop]
  have e2 : fs.take (j + 1) = fs.take j ++ [s] := by rw [List.take_add_one, hs]; rfl
  rcases Nat.le_one_iff_eq_zero_or_eq_one.mp hd with rfl | rfl
  · rw [Nat.add_zero, drop_at hs]
    conv => rhs; rw [e0]
    rw [show fs.take j ++ [m] ++ s :: fs.drop (j + 1) = fs.take j ++ m :: s :: fs.drop (j + 1) by simp]
    exact red_front h _ _
  · rw [e2]
    conv => rhs; rw [e0]
    rw [show fs.take j ++ [s] ++ [m] ++ fs.drop (j + 1) = fs.take j ++ s :: m :: fs.drop (j + 1) by simp]
    refine red_back h _ _ fun x hx a b => ?_
    refine fok_anti al hm ?_ a b
    rcases stp_mem hx with q | q
    · rw [q]
      exact ok s (List.mem_of_getElem? hs)
    · rcases fold_mem _ _ _ q with q | q
      · exact ok x (List.mem_of_mem_take q)
      · cases q
def spHolds (K : PySem.W.Frag) : Sp := fun vs H Q _ => ∃ (x y : V) (g f : Fc), vs = [x, y] ∧ IsF K H x g ∧ IsF K H y f ∧ Low f ∧ ∀ H', Same H H' → Q (.bl (sw g f)) H'
def spPad (K : PySem.W.Frag) : Sp := fun vs H Q _ => ∃ (t c : Addr) (n : Nat) (z : Str) (v : V) (fs : List Fc), vs = [.ref t, .str z, v] ∧ Tape H t c n ∧ n + 100 < 2 ^ 40 ∧ Alph z ∧ IsP K H v fs ∧ (∀ f ∈ fs, FOk z f) ∧ fs.length ≤ 100 ∧
  ∀ H' u gs, Kp t H H' → Tape H' t c (n + 10) → IsP K H' u gs → (∀ f ∈ gs, FOk z f) → gs.length ≤ fs.length + 1 → red gs = red fs → Q u H'
section
variable {P : Program} {w : World} {K : PySem.W.Frag} {mg : Str → Option Value} {base : Heap}
theorem scHolds : FnScope ["_law_factor_here", "_law_other", "_law_letter"] ["_law_factor_here", "_law_other"] (defScope sLHolds) := ⟨rfl, rfl, rfl, by decide +kernel, rfl, by decide +kernel, by decide +kernel⟩
theorem ok_holds (D : Df K mg "_law_holds" sLHolds ["_law_factor_here", "_law_other"]) : FnOk P w K mg base CX0 1 D.f D.fd ["_law_factor_here", "_law_other"] (spHolds K) := by
  refine D.F.ok scHolds (fun vs H Q E h => ?_) (fun cdv A outer s H vs Q E hr h => ?_)
  · obtain ⟨x, y, g, f, rfl, _⟩ := h
    rfl
  · obtain ⟨x, y, g, f, rfl, ⟨a, rfl, ha⟩, ⟨b, rfl, hb⟩, lf, k⟩ := h
    refine ⟨_, (pss_one (ps_ret (pe_and (pe_cmpR op_eq (pe_ix ix_tup (pv 0) pe_int (fun _ _ => rfl)) pe_str (nomark _)) (pe_one (pe_cmpR (op_eqD hr.units) (pe_lc (own := [("_law_letter", 2)]) (g := gName 2) rfl scHolds.nd (pi_str (pe_ix ix_tup (pv 1) pe_int (fun _ _ => rfl))) (blkOk_by (N := ["_law_factor_here", "_law_other", "_law_letter"]) (sc := defScope sLHolds) (by decide +kernel)) (fun _ _ _ _ _ => pg_name (i := 2) scHolds.nd rfl (Or.inl rfl)) (fun _ _ _ _ _ => (pts_one (pt_cmpR op_notIn_sign (pv 2) (pe_ix (r := rIxT K) (by exact ix_tup) (pv 0) pe_int (fun _ _ => rfl)) rfl))) (fun _ _ _ _ _ => (pv 2))) (pe_lst pa_nil) (nomark _)))))), ?_⟩
    refine ⟨.ref a, rfl, a, _, 0, .str (kd g.1), rfl, rfl, ha, atI_nat (j := 0) rfl, rfl, _, rfl, ?_⟩
    rw [kd_star]
    refine ite2 (fun e => ?_) (fun e => ?_)
    · refine ⟨.ref b, rfl, b, _, 1, .str f.2, rfl, rfl, hb, atI_nat (j := 1) rfl, f.2, rfl, fun D hD => ?_⟩
      have zs : f.2.cps.size = (ls f).length := (Array.length_toList).symm
      refine lc_it walk_str (fun i H' => ∃ ds : List Nat, H' D = some (.lst ((ds.map one).map V.str)) ∧ ds = ((ls f).take i).filter (fun c => !decide (c ∈ ls g)) ∧ Same H H') ⟨[], upd_same, rfl, same_upd hD⟩ (fun _ _ _ _ => trivial) ?_ ?_
      · rintro i x G G' hi ⟨ds, gD, de, sm⟩ ⟨rfl, d, hd, rfl⟩
        have hd' : (ls f)[i]? = some d := by rw [Array.getElem?_toList]; exact hd
        have dl : ds.length ≤ 1000 := by
          rw [de]
          exact Nat.le_trans (List.length_filter_le _ _) (Nat.le_trans (List.length_take_le' ..) lf.2)
        have tk : ((ls f).take (i + 1)).filter (fun c => !decide (c ∈ ls g)) = ds ++ [d].filter (fun c => !decide (c ∈ ls g)) := by
          rw [de, List.take_add_one, hd', ← List.filter_append]
          rfl
        refine ⟨rfl, _, rfl, .ref a, rfl, a, _, 1, .str g.2, rfl, rfl, same_tup sm _ _ ha, atI_nat (j := 1) rfl, d, g.2, rfl, rfl, _, rfl, ite2 (fun e2 => ?_) (fun e2 => ?_)⟩
        · refine ⟨_, rfl, _, gD, by rw [List.length_map, List.length_map, sizeLine_eq]; omega, ds ++ [d], ?_, ?_, fun b u e => (upd_ne (ne_of_none e hD)).trans (sm _ _ e)⟩
          · rw [upd_same, List.map_append, List.map_append]
            rfl
          · rw [tk, List.filter_cons_of_pos (p := fun c => !decide (c ∈ ls g)) e2]
            rfl
        · refine ⟨ds, gD, ?_, sm⟩
          rw [tk, List.filter_cons_of_neg (p := fun c => !decide (c ∈ ls g)) e2, List.filter_nil, List.append_nil]
      · rintro G ⟨ds, gD, de, sm⟩
        rw [zs, List.take_length] at de
        refine ⟨by show 0 ≤ sizeLine; decide, fun p hp => ?_⟩
        have sp := same_upd (o := .lst []) hp
        refine ⟨strD (ds.map one), .list [], str_dp (SqL.of (sp _ _ gD)), .lst (SqL.of upd_same) .nil, str_shaped (ones_ok fun c hc => lf.1 c (by rw [de] at hc; exact (List.mem_filter.mp hc).1)), nil_shaped, ?_⟩
        rw [str_eqv_nil]
        have e2 : (ds.map one).isEmpty = sw g f := by
          rw [de]
          unfold sw
          rw [e, Bool.true_and, Bool.eq_iff_iff, List.isEmpty_iff, List.map_eq_nil_iff, List.filter_eq_nil_iff, List.all_eq_true]
          simp
        rw [e2]
        exact k _ (sm.trans sp)
    · have e2 : sw g f = false := by
        unfold sw
        rw [show g.1 = false by simpa using e]
        rfl
      rw [← e2]
      exact k _ (Same.refl _)
theorem scPad : FnScope ["_law_tape", "_law_alphabet_here", "_law_product_here", "_law_stars", "_law_place", "_law_letters", "_law_more", "_law_k", "_law_letter"] ["_law_tape", "_law_alphabet_here", "_law_product_here"] (defScope sLPadded) := ⟨rfl, rfl, rfl, by decide +kernel, rfl, by decide +kernel, by decide +kernel⟩
theorem ok_pad (D : Df K mg "_law_padded" sLPadded ["_law_tape", "_law_alphabet_here", "_law_product_here"]) (Dd : DfDraw K mg) (Dp0 : DfPick K mg) (B : Bl mg) : FnOk P w K mg base CX0 3 D.f D.fd ["_law_tape", "_law_alphabet_here", "_law_product_here"] (spPad K) := by
  have Gd : FnOk P w K mg base CX0 1 Dd.f Dd.fd ["_law_tape", "_law_many"] spDraw := ok_draw Dd B.len
  have Gp : FnOk P w K mg base CX0 2 Dp0.f Dp0.fd ["_law_tape", "_law_items"] (spPick K) := ok_pick Dp0 Dd B.len
  refine D.F.ok scPad (fun vs H Q E h => ?_) (fun cdv A outer s H vs Q E hr h => ?_)
  · obtain ⟨t, c, n, z, v, fs, rfl, _⟩ := h
    rfl
  · obtain ⟨t, c, n, z, v, fs, rfl, T, hn, al, isp, ok, fl, k⟩ := h
    have hr1 : Room 1 _ := hr.mono (by decide)
    have isp0 := isp
    obtain ⟨a, xs, rfl, ha, iF⟩ := isp
    have xl := iF.len
    refine ⟨_, PSs.nox (pss_cons (ps_setLc (i := 3) (own := [("_law_k", 7)]) (g := gName 7) rfl scPad.nd rfl rfl (sw_true rfl rfl rfl (by decide +kernel)) (pi_range1 rfl B.range (pa_cons (pe_callB call_len_seq (by rfl) B.len PySem.boot_len (pa_cons (pv 2) pa_nil)) pa_nil)) (blkOk_by (N := ["_law_tape", "_law_alphabet_here", "_law_product_here", "_law_stars", "_law_place", "_law_letters", "_law_more", "_law_k", "_law_letter"]) (sc := defScope sLPadded) (by decide +kernel)) (fun _ _ _ _ _ => pg_name (i := 7) scPad.nd rfl (Or.inl rfl)) (fun _ _ _ _ _ => (pts_one (pt_cmpR op_eq (pe_ix (r := rIxT K) (by exact ix_tup) (pe_ix (r := rIxT K) (by exact ix_tup) (pv 2) (pv 7) (fun _ _ => rfl)) pe_int (fun _ _ => rfl)) pe_str (nomark _)))) (fun _ _ _ _ _ => (pv 7))) (pss_cons (ps_if (pt_cmpR (op_eqD hr.units) (pv 3) (pe_lst pa_nil) (nomark _)) (pss_one (ps_ret (pv 2))) pss_nil) (pss_cons (ps_set (i := 4) scPad.nd rfl (.inl rfl) (pe_call Gp hr (by rfl) Dp0.g Dp0.F.kp Dp0.b .nil pass0 (pa_cons (pv 0) (pa_cons (pv 3) pa_nil)))) (pss_cons (ps_setLc (i := 5) (own := [("_law_letter", 8)]) (g := gName 8) rfl scPad.nd rfl rfl (sw_true rfl rfl rfl (by decide +kernel)) (pi_str (pe_ix ix_tup (pe_ix ix_tup (pv 2) (pv 4) (fun _ _ => rfl)) pe_int (fun _ _ => rfl))) (blkOk_by (N := ["_law_tape", "_law_alphabet_here", "_law_product_here", "_law_stars", "_law_place", "_law_letters", "_law_more", "_law_k", "_law_letter"]) (sc := defScope sLPadded) (by decide +kernel)) (fun _ _ _ _ _ => pg_name (i := 8) scPad.nd rfl (Or.inl rfl)) (fun _ _ _ _ _ => (pts_one (pt_cmpR op_eq (pe_call Gd hr1 (by rfl) Dd.g Dd.F.kp Dd.b .nil pass0 (pa_cons (pv 0) (pa_cons pe_int pa_nil))) pe_int (nomark _)))) (fun _ _ _ _ _ => (pv 8))) (C8.pss_cut (ps_set (i := 6) scPad.nd rfl (.inl rfl) (pe_ifExp (pt_cmpR (op_neD hr.units) (pv 5) (pe_lst pa_nil) (nomark _)) (pe_tup (pa_cons pe_str (pa_cons (pe_join pe_str (pv 5)) pa_nil))) (pe_tup (pa_cons pe_str (pa_cons (pe_ix ix_str (pe_ix ix_tup (pe_ix ix_tup (pv 2) (pv 4) (fun _ _ => rfl)) pe_int (fun _ _ => rfl)) pe_int (fun _ _ => rfl)) pa_nil))))) (pss_cons (ps_set (i := 4) scPad.nd rfl (.inl rfl) (pe_op op_add (pv 4) (pe_call Gd hr1 (by rfl) Dd.g Dd.F.kp Dd.b .nil pass0 (pa_cons (pv 0) (pa_cons pe_int pa_nil))))) (pss_one (ps_ret (pe_op op_catA (pe_op op_catA (pe_slice sl_tupA (pv 2) po_none (po_some (pv 4))) (pe_tup (pa_cons (pv 6) pa_nil))) (pe_slice sl_tupA (pv 2) (po_some (pv 4)) po_none)))))))))), ?_⟩
    refine ⟨.ref a, rfl, a, xs, rfl, .inr ha, _, rfl, by omega, by omega, fun L hL => ?_⟩
    have sL := same_upd (o := .lst []) hL
    refine lc_range (lo := 0) (n := (xs.length : Int).toNat) (fun i H' => ∃ ks : List Nat, H' L = some (.lst ((ks.map Int.ofNat).map V.int)) ∧ (∀ j ∈ ks, ∃ f, fs[j]? = some f ∧ f.1 = true) ∧ ks.length ≤ i ∧ Same H H') ⟨[], upd_same, fun j hj => (nomatch hj), Nat.le_refl _, sL⟩ ?_ ?_
    · rintro i G hi ⟨ks, gL, hk, kl, sm⟩
      have il : i < fs.length := by
        rw [← xl]
        omega
      obtain ⟨v, f, hv, hf, b, rfl, hb⟩ := iF.at i il
      refine ⟨rfl, .ref a, rfl, _, rfl, a, xs, _, .ref b, rfl, rfl, same_tup sm _ _ ha, atI_of (j := i) (by omega) hv, b, _, 0, .str (kd f.1), rfl, rfl, same_tup sm _ _ hb, atI_nat (j := 0) rfl, rfl, _, rfl, ?_⟩
      rw [kd_star]
      refine ite2 (fun e => ?_) (fun e => ?_)
      · refine ⟨_, rfl, _, gL, by rw [List.length_map, List.length_map, sizeLine_eq]; omega, ks ++ [i], ?_, fun j hj => ?_, by rw [List.length_append]; show _ + 1 ≤ _; omega, fun b u e => (upd_ne (ne_of_none e hL)).trans (sm _ _ e)⟩
        · rw [upd_same, List.map_append, List.map_append]
          show some (HO.lst (_ ++ [V.int (0 + (i : Int))])) = some (HO.lst (_ ++ [V.int (i : Int)]))
          rw [Int.zero_add]
        · rcases List.mem_append.mp hj with q | q
          · exact hk j q
          · rw [List.mem_singleton.mp q]
            exact ⟨f, hf, e⟩
      · exact ⟨ks, gL, hk, by omega, sm⟩
    · rintro G ⟨ks, gL, hk, kl, sm⟩
      refine ⟨.ref L, rfl, by show 0 ≤ sizeLine; decide, fun p hp => ?_⟩
      have sp := same_upd (o := .lst []) hp
      refine ⟨intD (ks.map Int.ofNat), .list [], int_dp (SqL.of (sp _ _ gL)), .lst (SqL.of upd_same) .nil, int_shaped _, nil_shaped, _, rfl, ?_⟩
      rw [int_eqv_nil]
      have sm1 := sm.trans sp
      have T1 := T.same sm1
      refine ite2 (fun e => ?_) (fun e => ?_)
      · exact ⟨_, rfl, k _ _ fs (T.kp sm1) (T1.mono (by omega)) (isp0.mono (same_tup sm1)) ok (by omega) rfl⟩
      · refine ⟨.ref t, rfl, .ref L, rfl, t, c, n, .ref L, rfl, T1, by omega, .inl ⟨L, _, rfl, SqL.of (sp _ _ gL), fun q => e (by
          rw [List.map_eq_nil_iff] at q
          rw [q]
          rfl), by rw [List.length_map, List.length_map]; omega, fun H2 y k2 T2 hy => ?_⟩⟩
        obtain ⟨jj, hjj, rfl⟩ := List.mem_map.mp hy
        obtain ⟨j, hj, rfl⟩ := List.mem_map.mp hjj
        obtain ⟨f, hf, f1⟩ := hk j hj
        have fo := ok f (List.mem_of_getElem? hf)
        have fl3 : (tl f.2).length ≤ 3 := fok_len al fo
        have jl := (List.getElem?_eq_some_iff.mp hf).1
        have kk : Kp t H H2 := (T.kp sm1).trans k2
        obtain ⟨v, f', hv, hf', b, rfl, hb⟩ := iF.at j jl
        rw [hf] at hf'
        cases hf'
        refine ⟨.ref a, rfl, _, rfl, a, xs, _, .ref b, rfl, rfl, kk.tup ha, atI_nat hv, b, _, 1, .str f.2, rfl, rfl, kk.tup hb, atI_nat (j := 1) rfl, f.2, rfl, fun M hM => ?_⟩
        have M1 := T2.ne1 hM
        have M2 := T2.ne2 hM
        have M0 := kk.gone hM
        have zs : f.2.cps.size = (tl f.2).length := (Array.length_toList).symm
        refine lc_it walk_str (fun i H' => ∃ ds : List Nat, ds.Sublist ((tl f.2).take i) ∧ H' M = some (.lst ((ds.map one).map V.str)) ∧ Kp t H H' ∧ Tape H' t c (n + 1 + i)) ?_ (fun _ _ _ _ => trivial) ?_ ?_
        · exact ⟨[], List.nil_sublist _, upd_same, kk.put M0 M1, T2.upd M1 M2⟩
        · rintro i x G G' hi ⟨ds, sub, gM, kG, TG⟩ ⟨rfl, d, hd, rfl⟩
          have hd' : (tl f.2)[i]? = some d := by rw [Array.getElem?_toList]; exact hd
          have tk : (tl f.2).take (i + 1) = (tl f.2).take i ++ [d] := by rw [List.take_add_one, hd'] <;> rfl
          have dl : ds.length ≤ 3 := Nat.le_trans (Nat.le_trans sub.length_le (List.length_take_le' ..)) fl3
          refine ⟨rfl, .ref t, rfl, t, c, 2, n + 1 + i, rfl, TG, by omega, by decide, by decide, fun H4 q k4 T4 q0 q1 => ?_⟩
          have gM4 := k4.at gM (fun _ z => by cases z)
          refine ⟨rfl, _, rfl, ite2 (fun e2 => ?_) (fun e2 => ?_)⟩
          · refine ⟨_, rfl, _, gM4, ?_, ds ++ [d], ?_, ?_, (kG.trans k4).put M0 M1, T4.upd M1 M2⟩
            · rw [List.length_map, List.length_map, sizeLine_eq]
              omega
            · rw [tk]
              exact sub.append (List.Sublist.refl _)
            · rw [upd_same, List.map_append, List.map_append]
              rfl
          · refine ⟨ds, ?_, gM4, kG.trans k4, T4⟩
            rw [tk]
            exact sub.trans (List.sublist_append_left _ _)
        · rintro G ⟨ds, sub, gM, kG, TG⟩
          have sub' : ds.Sublist (tl f.2) := sub.trans (List.take_sublist _ _)
          have dl : ds.length ≤ 3 := Nat.le_trans sub'.length_le fl3
          -- the new factor, then its place
          refine ⟨fun σ' H5 => ∃ (pm : Addr) (m : Fc) (y7 y8 : Option V), σ' = [some (.ref t), some (.str z), some (.ref a), some (.ref L), some (.int (j : Int)), some (.ref M), some (.ref pm), y7, y8] ∧ Kp t H H5 ∧ Tape H5 t c (n + 1 + f.2.cps.size) ∧ IsF K H5 (.ref pm) m ∧ FOk z m ∧ sw f m = true, ?_, ?_⟩
          · refine ⟨.ref M, rfl, by show 0 ≤ sizeLine; decide, fun p2 hp2 => ?_⟩
            have s2 := same_upd (o := .lst []) hp2
            refine ⟨strD (ds.map one), .list [], str_dp (SqL.of (s2 _ _ gM)), .lst (SqL.of upd_same) .nil, str_shaped (ones_ok fun c hc => by have := al.2.2.2 c (fo.2.1.subset (sub'.subset hc)); omega), nil_shaped, _, rfl, ?_⟩
            rw [str_eqv_nil]
            have kG2 := kG.trans (TG.kp s2)
            have TG2 := TG.same s2
            have ej : tl (Txt.join "" (ds.map one)) = ds := by rw [tl_cat, flat_ones]
            refine ite2 (fun e3 => ?_) (fun e3 => ?_)
            · refine ⟨⟨_, rfl⟩, .ref M, rfl, "", M, ds.map one, rfl, rfl, .inl (SqL.of (s2 _ _ gM)), ?_, ?_⟩
              · rw [sum_ones _ fun y hy => ?_, List.length_map]
                · show ds.length + ds.length * 0 ≤ 16777216
                  omega
                · obtain ⟨u, _, e⟩ := List.mem_map.mp hy
                  exact ⟨u, e.symm⟩
              refine ⟨by show 2 ≤ sizeLine; decide, fun pm hpm => ?_⟩
              have s3 := same_upd (o := .tup [.str "star", .str (Txt.join "" (ds.map one))]) hpm
              refine ⟨pm, (true, Txt.join "" (ds.map one)), _, _, rfl, kG2.trans (TG2.kp s3), TG2.same s3, ⟨pm, rfl, SqT.of upd_same⟩, ⟨?_, by rw [ej]; exact sub'.trans fo.2.1, fun z => by cases z⟩, sw_of f1 fun c hc => ?_⟩
              · intro z0
                rw [ej] at z0
                rw [z0] at e3
                exact absurd e3 (by decide)
              · have hc' : c ∈ tl (Txt.join "" (ds.map one)) := hc
                rw [ej] at hc'
                exact sub'.subset hc'
            · obtain ⟨d0, hd0⟩ : ∃ d0, (tl f.2)[0]? = some d0 := by
                cases q : tl f.2 with
                | nil => exact absurd q fo.1
                | cons x r => exact ⟨x, rfl⟩
              refine ⟨.ref a, rfl, _, rfl, a, xs, _, .ref b, rfl, rfl, kG2.tup ha, atI_nat hv, b, _, 1, .str f.2, rfl, rfl, kG2.tup hb, atI_nat (j := 1) rfl, f.2, 0, d0, rfl, rfl, by rw [show f.2.length = (tl f.2).length from (Array.length_toList).symm, sizeLine_eq]; omega, at_cp (j := 0) rfl hd0, ?_⟩
              refine ⟨by show 2 ≤ sizeLine; decide, fun pm hpm => ?_⟩
              have s3 := same_upd (o := .tup [.str "opt", .str ⟨#[d0]⟩]) hpm
              have m0 : d0 ∈ tl f.2 := List.mem_of_getElem? hd0
              refine ⟨pm, (false, one d0), _, _, rfl, kG2.trans (TG2.kp s3), TG2.same s3, ⟨pm, rfl, SqT.of upd_same⟩, ⟨by simp [one], ?_, fun _ => rfl⟩, sw_of f1 fun c hc => ?_⟩
              · show [d0].Sublist _
                exact (List.singleton_sublist.mpr m0).trans fo.2.1
              · rw [List.mem_singleton.mp hc]
                exact m0
          · rintro σ' H5 ⟨pm, m, y7, y8, rfl, k5, T5, ism, fom, swm⟩
            refine ⟨_, rfl, .ref t, rfl, t, c, 2, _, rfl, T5, by omega, by decide, by decide, fun H6 r k6 T6 r0 r1 => ?_⟩
            refine ⟨_, _, rfl, rfl, ?_⟩
            have k56 := k5.trans k6
            refine ⟨.ref a, rfl, _, rfl, _, rfl, sl_any (k56.tup ha) fun H7 b1 s7 hb1 => ?_⟩
            refine ⟨_, rfl, by show 1 ≤ sizeLine; decide, fun b2 hb2 => ?_⟩
            have s8 := same_upd (o := .tup [V.ref pm]) hb2
            have cl1 := cutV_length xs none (some ((j : Int) + r))
            refine cat_any (same_tup s8 _ _ hb1) (SqT.of upd_same) (by show _ + 1 ≤ _; rw [sizeLine_eq]; omega) fun H9 b3 s9 hb3 => ?_
            have ka : Kp t H H9 := ((k56.trans (T6.kp s7)).trans ((T6.same s7).kp s8)).trans (((T6.same s7).same s8).kp s9)
            refine ⟨.ref a, rfl, _, rfl, _, rfl, ?_⟩
            unfold tNoPart
            refine sl_any (ka.tup ha) fun H10 b4 s10 hb4 => ?_
            have cl2 := cutV_length xs (some ((j : Int) + r)) none
            refine cat_any (same_tup s10 _ _ hb3) hb4 (by rw [List.length_append, sizeLine_eq]; show _ + 1 + _ ≤ _; omega) fun H11 b5 s11 hb5 => ?_
            have T9 := ((T6.same s7).same s8).same s9
            have T11 := (T9.same s10).same s11
            have kall : Kp t H H11 := (ka.trans (T9.kp s10)).trans ((T9.same s10).kp s11)
            have iF11 : IsFs K H11 xs fs := iF.mono (kp_tup kall)
            have ism11 : IsF K H11 (.ref pm) m := (((((ism.mono (kp_tup k6)).mono (same_tup s7)).mono (same_tup s8)).mono (same_tup s9)).mono (same_tup s10)).mono (same_tup s11)
            obtain ⟨rn, rfl⟩ := Int.eq_ofNat_of_zero_le r0
            have ej : ((Int.ofNat j + (rn : Int)).toNat) = j + rn := by
              show (((j : Int) + (rn : Int)).toNat) = j + rn
              omega
            have jr0 : (0 : Int) ≤ Int.ofNat j + (rn : Int) := by
              show (0 : Int) ≤ (j : Int) + (rn : Int)
              omega
            have jr1 : Int.ofNat j + (rn : Int) ≤ (xs.length : Int) := by
              show (j : Int) + (rn : Int) ≤ (xs.length : Int)
              omega
            have e1 := cut_take xs jr0 jr1
            have e2 := cut_drop xs jr0
            rw [ej] at e1 e2
            refine k _ _ (fs.take (j + rn) ++ [m] ++ fs.drop (j + rn)) kall (T11.mono (by omega)) ⟨b5, _, rfl, hb5, ?_⟩ (fun g hg => ?_) ?_ (pad_red al ok hf fom swm (by omega))
            · show IsFs K H11 (cutV xs none (some (Int.ofNat j + (rn : Int))) ++ [V.ref pm] ++ cutV xs (some (Int.ofNat j + (rn : Int))) none) _
              rw [e1, e2]
              exact ((iF11.take _).app (.cons ism11 .nil)).app (iF11.drop _)
            · rcases List.mem_append.mp hg with q | q
              · rcases List.mem_append.mp q with q | q
                · exact ok g (List.mem_of_mem_take q)
                · rw [List.mem_singleton.mp q]
                  exact fom
              · exact ok g (List.mem_of_mem_drop q)
            · rw [List.length_append, List.length_append, List.length_take, List.length_drop]
              show _ + 1 + _ ≤ _
              omega
end
end DW
/-! k09: the law -/
namespace DW
open PySem PySem.Spec PyProof.Rows L2 TL
set_option autoImplicit false
theorem Apart.at : ∀ {l : List Fc}, Apart l → ∀ (i : Nat) (f g : Fc), l[i]? = some f → l[i + 1]? = some g → sw f g = false ∧ sw g f = false
  | [], _, i, f, g, h, _ => by simp at h
  | [_], _, i, f, g, h, h2 => by simp at h2
  | a :: b :: r, h, 0, f, g, h1, h2 => by
    have e1 : a = f := Option.some.inj h1
    have e2 : b = g := Option.some.inj h2
    rw [← e1, ← e2]
    exact ⟨h.1, h.2.1⟩
  | a :: b :: r, h, i + 1, f, g, h1, h2 => Apart.at (l := b :: r) h.2.2 i f g h1 h2
theorem red_at (fs : List Fc) {i : Nat} {f g : Fc} (h1 : (red fs)[i]? = some f) (h2 : (red fs)[i + 1]? = some g) : sw f g = false ∧ sw g f = false := by
  have ap : Apart (fs.foldl stp []) := fold_apart fs [] trivial
  unfold red at h1 h2
  have l2 := (List.getElem?_eq_some_iff.mp h2).1
  rw [List.length_reverse] at l2
  rw [List.getElem?_reverse (by omega)] at h1 h2
  have q := ap.at ((fs.foldl stp []).length - 1 - (i + 1)) g f h2 (by
    rw [show (fs.foldl stp []).length - 1 - (i + 1) + 1 = (fs.foldl stp []).length - 1 - i by omega]
    exact h1)
  exact ⟨q.2, q.1⟩
theorem red_len (fs : List Fc) : (red fs).length ≤ fs.length := by
  have h : ∀ (fs st : List Fc), (fs.foldl stp st).length ≤ st.length + fs.length := by
    intro fs
    induction fs with
    | nil => intro st; exact Nat.le_refl _
    | cons f fs ih =>
      intro st
      have h1 := ih (stp st f)
      have h2 := stp_len st f
      rw [List.foldl_cons, List.length_cons]
      omega
  unfold red
  rw [List.length_reverse]
  have := h fs []
  simpa using this
theorem over_low {z : Str} (al : Alph z) {u : List Nat} (h : ∀ c ∈ u, c ∈ tl z) : ∀ c ∈ u, c < 128 := fun c hc => by
  have := al.2.2.2 c (h c hc)
  omega
section
variable {P : Program} {w : World} {K : PySem.W.Frag} {mg : Str → Option Value} {base : Heap}
structure Ds (K : PySem.W.Frag) (mg : Str → Option Value) where
  p_is_ascending : Df K mg "is_ascending" sIsAscending ["letters"]
  p_is_word : Df K mg "is_word" sIsWord ["alphabet", "thing"]
  p_is_factor : Df K mg "is_factor" sIsFactor ["alphabet", "thing"]
  p_is_product : Df K mg "is_product" sIsProduct ["alphabet", "thing"]
  p_swallows : Df K mg "swallows" sSwallows ["factor", "other"]
  p_covers : Df K mg "covers" sCovers ["factor", "other"]
  p_reduce_product : Df K mg "reduce_product" sReduceProduct ["product"]
  p_unfold : Df K mg "unfold" sUnfold ["product", "count"]
  p_behind : Df K mg "behind" sBehind ["product", "place"]
  p_place_behind : Df K mg "place_behind" sPlaceBehind ["product", "other", "start"]
  p_is_included : Df K mg "is_included" sIsIncluded ["product", "other"]
  p_subwords_product : Df K mg "subwords_product" sSubwordsProduct ["word"]
  p_accepts : Df K mg "accepts" sAccepts ["product", "word"]
  begin : Df K mg "_law_begin" sBegin ["_law_script"]
  draw : Df K mg "_law_draw" sDraw ["_law_tape", "_law_many"]
  pick : Df K mg "_law_pick" sPick ["_law_tape", "_law_items"]
  alphabet : Df K mg "_law_alphabet" sAlpha ["_law_tape"]
  factor : Df K mg "_law_factor" sFactor ["_law_tape", "_law_alphabet_here"]
  product : Df K mg "_law_product" sProduct ["_law_tape", "_law_alphabet_here", "_law_longest"]
  words : Df K mg "_law_words" sLWords ["_law_alphabet_here", "_law_longest"]
  in_product : Df K mg "_law_in_product" sLInProduct ["_law_product_here", "_law_word"]
  holds : Df K mg "_law_holds" sLHolds ["_law_factor_here", "_law_other"]
  padded : Df K mg "_law_padded" sLPadded ["_law_tape", "_law_alphabet_here", "_law_product_here"]
  B : Bl mg
  b_all : mg "all" = none
  b_zip : mg "zip" = none
  b_isinstance : mg "isinstance" = none
  b_str : mg "str" = none
  b_tuple : mg "tuple" = none
  b_list : mg "list" = none
def spLaw (K : PySem.W.Frag) : Sp := fun vs H Q _ => ∃ (a : Addr) (ns : List Int), vs = [.ref a] ∧ SqL K H a (ns.map V.int) ∧ ∀ H', Q (.bl true) H'
theorem scLaw : FnScope ["_law_script", "_law_tape", "_law_turn", "_law_alphabet_here", "_law_product_here", "_law_found", "_law_k", "_law_word"] ["_law_script"] (defScope sLaw) := ⟨rfl, rfl, rfl, by decide +kernel, rfl, by decide +kernel, by decide +kernel⟩
theorem ok_law (D : Df K mg "law" sLaw ["_law_script"]) (S : Ds K mg) : FnOk P w K mg base CX0 6 D.f D.fd ["_law_script"] (spLaw K) := by
  have Gb : FnOk P w K mg base CX0 1 S.begin.f S.begin.fd ["_law_script"] (spBegin K) := ok_begin S.begin
  have Gp : FnOk P w K mg base CX0 2 S.pick.f S.pick.fd ["_law_tape", "_law_items"] (spPick K) := ok_pick S.pick S.draw S.B.len
  have Ga : FnOk P w K mg base CX0 3 S.alphabet.f S.alphabet.fd ["_law_tape"] spAlpha := ok_alpha S.alphabet S.draw S.pick S.B
  have Gr : FnOk P w K mg base CX0 4 S.product.f S.product.fd ["_law_tape", "_law_alphabet_here", "_law_longest"] (spProduct K) := ok_product S.product S.factor S.draw S.pick S.B S.b_tuple
  have Gu : FnOk P w K mg base CX0 1 S.p_unfold.f S.p_unfold.fd ["product", "count"] (spUnfold K) := ok_unfold S.p_unfold
  have Gc : FnOk P w K mg base CX0 5 S.p_accepts.f S.p_accepts.fd ["product", "word"] (spAcc K) := ok_acc S.p_accepts S.p_subwords_product ⟨S.p_is_included, S.p_place_behind, S.p_behind, S.p_covers, S.p_swallows⟩ S.b_tuple S.b_all S.B.len
  have Gn : FnOk P w K mg base CX0 1 S.in_product.f S.in_product.fd ["_law_product_here", "_law_word"] (spInP K) := ok_inp S.in_product S.B S.b_list
  have Gw : FnOk P w K mg base CX0 1 S.words.f S.words.fd ["_law_alphabet_here", "_law_longest"] spWords := ok_words S.words S.B
  have Gi : FnOk P w K mg base CX0 3 S.p_is_product.f S.p_is_product.fd ["alphabet", "thing"] (spIp K) := ok_ip ⟨S.p_is_product, S.p_is_factor, S.p_is_word, S.p_is_ascending, S.b_all, S.b_zip, S.b_isinstance, S.b_str, S.b_tuple, S.B.len⟩
  have Ge : FnOk P w K mg base CX0 2 S.p_reduce_product.f S.p_reduce_product.fd ["product"] (spRd K) := ok_rd S.p_reduce_product S.p_swallows S.b_all S.b_tuple
  have Gh : FnOk P w K mg base CX0 1 S.holds.f S.holds.fd ["_law_factor_here", "_law_other"] (spHolds K) := ok_holds S.holds
  have Gx : FnOk P w K mg base CX0 3 S.padded.f S.padded.fd ["_law_tape", "_law_alphabet_here", "_law_product_here"] (spPad K) := ok_pad S.padded S.draw S.pick S.B
  refine D.F.ok scLaw (fun vs H Q E h => ?_) (fun cdv A outer s H vs Q E hr h => ?_)
  · obtain ⟨a, ns, rfl, _⟩ := h
    rfl
  · obtain ⟨a, ns, rfl, hS, k⟩ := h
    have hr1 : Room 1 _ := hr.mono (by decide)
    have hr2 : Room 2 _ := hr.mono (by decide)
    have hr3 : Room 3 _ := hr.mono (by decide)
    have hr4 : Room 4 _ := hr.mono (by decide)
    refine ⟨_, PSs.nox (pss_cons (ps_set (i := 1) scLaw.nd rfl (.inl rfl) (pe_call Gb hr1 (by rfl) S.begin.g S.begin.F.kp S.begin.b .nil pass0 (pa_cons (pv 0) pa_nil))) (pss_cons (ps_for PassesOwn.never rfl (pi_range1 rfl S.B.range (pa_cons pe_int pa_nil)) (pg_name (i := 2) scLaw.nd rfl (.inl rfl)) (pss_cons (ps_set (i := 3) scLaw.nd rfl (.inl rfl) (pe_call Ga hr3 (by rfl) S.alphabet.g S.alphabet.F.kp S.alphabet.b .nil pass0 (pa_cons (pv 1) pa_nil))) (pss_cons (ps_set (i := 4) scLaw.nd rfl (.inl rfl) (pe_call Gr hr4 (by rfl) S.product.g S.product.F.kp S.product.b .nil pass0 (pa_cons (pv 1) (pa_cons (pv 3) (pa_cons (pe_call Gp hr2 (by rfl) S.pick.g S.pick.F.kp S.pick.b .nil pass0 (pa_cons (pv 1) (pa_cons (pe_lst (pa_cons pe_int (pa_cons pe_int (pa_cons pe_int pa_nil)))) pa_nil))) pa_nil))))) (pss_cons (ps_set (i := 5) scLaw.nd rfl (.inl rfl) (pe_call Ge hr2 (by rfl) S.p_reduce_product.g S.p_reduce_product.F.kp S.p_reduce_product.b .nil pass0 (pa_cons (pv 4) pa_nil))) (pss_cons (ps_if (pw_or (pt_not (pt_val (pe_call Gi hr3 (by rfl) S.p_is_product.g S.p_is_product.F.kp S.p_is_product.b .nil pass0 (pa_cons (pv 3) (pa_cons (pv 5) pa_nil))))) (pw_or1 (pt_cmpR (op_neD hr.units) (pe_call Ge hr2 (by rfl) S.p_reduce_product.g S.p_reduce_product.F.kp S.p_reduce_product.b .nil pass0 (pa_cons (pv 5) pa_nil)) (pv 5) (nomark _)))).pt (pss_one (ps_ret pe_bl)) pss_nil) (pss_cons (ps_for PassesOwn.never rfl (pi_range1 rfl S.B.range (pa_cons (pe_op op_sub (pe_callB call_len_seq (by rfl) S.B.len PySem.boot_len (pa_cons (pv 5) pa_nil)) pe_int) pa_nil)) (pg_name (i := 6) scLaw.nd rfl (.inl rfl)) (pss_one (ps_if (pw_or (pt_val (pe_call Gh hr1 (by rfl) S.holds.g S.holds.F.kp S.holds.b .nil pass0 (pa_cons (pe_ix ix_tup (pv 5) (pv 6) (fun _ _ => rfl)) (pa_cons (pe_ix ix_tup (pv 5) (pe_op op_add (pv 6) pe_int) (fun _ _ => rfl)) pa_nil)))) (pw_or1 (pt_val (pe_call Gh hr1 (by rfl) S.holds.g S.holds.F.kp S.holds.b .nil pass0 (pa_cons (pe_ix ix_tup (pv 5) (pe_op op_add (pv 6) pe_int) (fun _ _ => rfl)) (pa_cons (pe_ix ix_tup (pv 5) (pv 6) (fun _ _ => rfl)) pa_nil)))))).pt (pss_one (ps_ret pe_bl)) pss_nil))) (pss_cons (ps_for PassesOwn.never rfl (pi_list (pe_call Gw hr1 (by rfl) S.words.g S.words.F.kp S.words.b .nil pass0 (pa_cons (pv 3) (pa_cons pe_int pa_nil)))) (pg_name (i := 7) scLaw.nd rfl (.inl rfl)) (pss_one (ps_if (pt_cmpR op_ne (pe_call Gn hr1 (by rfl) S.in_product.g S.in_product.F.kp S.in_product.b .nil pass0 (pa_cons (pv 4) (pa_cons (pv 7) pa_nil))) (pe_call Gn hr1 (by rfl) S.in_product.g S.in_product.F.kp S.in_product.b .nil pass0 (pa_cons (pv 5) (pa_cons (pv 7) pa_nil))) (nomark _)) (pss_one (ps_ret pe_bl)) pss_nil))) (pss_cons (ps_if (pw_or (pt_not (pt_val (pe_call Gc hr (by rfl) S.p_accepts.g S.p_accepts.F.kp S.p_accepts.b .nil pass0 (pa_cons (pv 5) (pa_cons (pe_call Gu hr1 (by rfl) S.p_unfold.g S.p_unfold.F.kp S.p_unfold.b .nil pass0 (pa_cons (pv 4) (pa_cons pe_int pa_nil))) pa_nil))))) (pw_or1 (pt_not (pt_val (pe_call Gc hr (by rfl) S.p_accepts.g S.p_accepts.F.kp S.p_accepts.b .nil pass0 (pa_cons (pv 4) (pa_cons (pe_call Gu hr1 (by rfl) S.p_unfold.g S.p_unfold.F.kp S.p_unfold.b .nil pass0 (pa_cons (pv 5) (pa_cons pe_int pa_nil))) pa_nil))))))).pt (pss_one (ps_ret pe_bl)) pss_nil) (pss_one (ps_for PassesOwn.never rfl (pi_range1 rfl S.B.range (pa_cons pe_int pa_nil)) (pg_name (i := 6) scLaw.nd rfl (.inl rfl)) (pss_cons (ps_set (i := 4) scLaw.nd rfl (.inl rfl) (pe_call Gx hr3 (by rfl) S.padded.g S.padded.F.kp S.padded.b .nil pass0 (pa_cons (pv 1) (pa_cons (pv 3) (pa_cons (pv 4) pa_nil))))) (pss_one (ps_if (pt_cmpR (op_neD hr.units) (pe_call Ge hr2 (by rfl) S.p_reduce_product.g S.p_reduce_product.F.kp S.p_reduce_product.b .nil pass0 (pa_cons (pv 4) pa_nil)) (pv 5) (nomark _)) (pss_one (ps_ret pe_bl)) pss_nil))))))))))))) (pss_one (ps_ret pe_bl)))), ?_⟩
    refine ⟨.ref a, rfl, a, ns, rfl, hS, fun H0 t c s0 ht hc T0 => ?_⟩
    refine ⟨3, rfl, by decide, by decide, for_it walk_range (fun i σ H' => ∃ y2 y3 y4 y5 y6 y7, σ = [some (.ref a), some (.ref t), y2, y3, y4, y5, y6, y7] ∧ Tape H' t c (10000 * i)) ⟨_, _, _, _, _, _, rfl, T0⟩ (fun _ _ _ _ _ => trivial) ?_ ?_⟩
    · rintro i x σ G G' hi ⟨y2, y3, y4, y5, y6, y7, rfl, T⟩ ⟨rfl, rfl⟩
      refine ⟨.ref t, rfl, t, c, 10000 * i, rfl, T, by omega, fun H1 z k1 T1 al => ?_⟩
      refine ⟨.ref t, rfl, .str z, rfl, .ref t, rfl, by show 3 ≤ sizeLine; decide, fun l1 e1 => ?_⟩
      have s1 := same_upd (o := .lst [V.int 3, V.int 6, V.int 8]) e1
      refine ⟨t, c, _, .ref l1, rfl, T1.same s1, by omega, .inl ⟨l1, _, rfl, SqL.of upd_same, by simp, by show 3 < 2 ^ 30; decide, fun H2 y k2 T2 hy => ?_⟩⟩
      obtain ⟨m, rfl, m0, m1⟩ : ∃ m : Int, y = .int m ∧ 0 ≤ m ∧ m ≤ 8 := by
        simp only [List.mem_cons, List.not_mem_nil, or_false] at hy
        rcases hy with e | e | e
        · exact ⟨3, e, by decide, by decide⟩
        · exact ⟨6, e, by decide, by decide⟩
        · exact ⟨8, e, by decide, by decide⟩
      refine ⟨t, c, _, z, m, rfl, T2, by omega, al, m0, by omega, fun H3 v1 p1 k3 T3 isp1 ok1 len1 => ?_⟩
      have pl : p1.length ≤ 8 := by omega
      have rl := red_len p1
      have okr : ∀ f ∈ red p1, FOk z f := fun f hf => ok1 f (red_mem hf)
      have l31 : ∀ f ∈ p1, (tl f.2).length ≤ 3 := fun f hf => fok_len al (ok1 f hf)
      have l3r : ∀ f ∈ red p1, (tl f.2).length ≤ 3 := fun f hf => fok_len al (okr f hf)
      -- found
      refine ⟨v1, rfl, v1, p1, rfl, isp1, fun f hf => Nat.le_trans (l31 f hf) (by decide), by omega, fun H4 v2 s4 isp2 => ?_⟩
      refine ⟨.str z, rfl, v2, rfl, z, v2, true, rfl, isp2.pr al okr (by omega), fun H5 s5 => ⟨_, rfl, iteF ?_⟩⟩
      have isp25 := isp2.mono (same_tup s5)
      refine ⟨v2, rfl, v2, red p1, rfl, isp25, fun f hf => Nat.le_trans (l3r f hf) (by decide), by omega, fun H6 v3 s6 isp3 => ?_⟩
      have isp26 := isp25.mono (same_tup s6)
      refine ⟨v2, rfl, pD (red (red p1)), pD (red p1), isp3.dp, isp26.dp, pD_shaped al (by rw [red_red]; exact okr), pD_shaped al okr, _, rfl, ?_⟩
      rw [pD_eqv, red_red, decide_eq_true rfl]
      refine iteF ?_
      have s36 := (s4.trans s5).trans s6
      have T6 : Tape H6 t c (10000 * i + 1100) := (T3.same s36).mono (by omega)
      have isp16 := isp1.mono (same_tup s36)
      clear isp3 isp2 isp25 T T1 T2 T3
      obtain ⟨b2, xs2, rfl, hb2, iF2⟩ := id isp26
      have xl2 := iF2.len
      -- neighbours
      refine ⟨.ref b2, rfl, b2, xs2, rfl, .inr hb2, _, 1, rfl, rfl, (xs2.length : Int) - 1, rfl, by omega, by omega, for_it (n := ((xs2.length : Int) - 1).toNat) walk_range (fun j σ H' => ∃ y6, σ = [some (.ref a), some (.ref t), some (.int (0 + (i : Int))), some (.str z), some v1, some (.ref b2), y6, y7] ∧ Same H6 H') ⟨_, rfl, Same.refl _⟩ (fun _ _ _ _ _ => trivial) ?_ ?_⟩
      · rintro j x σ M M' hj ⟨y6, rfl, sm⟩ ⟨rfl, rfl⟩
        have jl : j + 1 < (red p1).length := by omega
        obtain ⟨u, f, hu, hf, isf⟩ := iF2.at j (by omega)
        obtain ⟨u', f', hu', hf', isf'⟩ := iF2.at (j + 1) jl
        have lo := fok_low al (okr f (List.mem_of_getElem? hf))
        have lo' := fok_low al (okr f' (List.mem_of_getElem? hf'))
        obtain ⟨a1, a2⟩ := red_at p1 hf hf'
        have ej : (0 + (j : Int)) = (j : Int) := by omega
        have ej' : (0 + (j : Int)) + 1 = ((j + 1 : Nat) : Int) := by omega
        refine ⟨.ref b2, rfl, _, rfl, b2, xs2, _, u, rfl, rfl, same_tup sm _ _ hb2, atI_of ej hu, .ref b2, rfl, _, rfl, _, 1, rfl, rfl, b2, xs2, _, u', rfl, rfl, same_tup sm _ _ hb2, atI_of ej' hu', u, u', f, f', rfl, isf.mono (same_tup sm), isf'.mono (same_tup sm), lo', fun M1 sM1 => ?_⟩
        rw [a1]
        have sm1 := sm.trans sM1
        refine ⟨_, rfl, iteF ?_⟩
        refine ⟨.ref b2, rfl, _, rfl, _, 1, rfl, rfl, b2, xs2, _, u', rfl, rfl, same_tup sm1 _ _ hb2, atI_of ej' hu', .ref b2, rfl, _, rfl, b2, xs2, _, u, rfl, rfl, same_tup sm1 _ _ hb2, atI_of ej hu, u', u, f', f, rfl, isf'.mono (same_tup sm1), isf.mono (same_tup sm1), lo, fun M2 sM2 => ?_⟩
        rw [a2]
        exact ⟨_, rfl, iteF ⟨_, rfl, sm1.trans sM2⟩⟩
      rintro σ N ⟨y6, rfl, sN⟩
      -- words
      have TN := T6.same sN
      have isp1N := isp16.mono (same_tup sN)
      have isp2N := isp26.mono (same_tup sN)
      refine ⟨.str z, rfl, z, 3, rfl, al, by decide, by decide, fun H7 lw ws s7 lw0 hlw hws wl => ?_⟩
      refine ⟨lw, rfl, ⟨_, SqL.of hlw⟩, for_it (walk_list (xs := ws.map V.str)) (fun j σ H' => ∃ y7, σ = [some (.ref a), some (.ref t), some (.int (0 + (i : Int))), some (.str z), some v1, some (.ref b2), y6, y7] ∧ Same H7 H') ⟨_, rfl, Same.refl _⟩ (fun _ _ _ _ ⟨_, _, sm⟩ => SqL.of (sm _ _ hlw)) ?_ ?_⟩
      · rintro j x σ M M' hj ⟨y7, rfl, sm⟩ ⟨rfl, hx⟩
        rw [List.getElem?_map] at hx
        obtain ⟨u, hu, rfl⟩ := Option.map_eq_some_iff.mp hx
        have ul := (hws u (List.mem_of_getElem? hu)).1
        have sa := s7.trans sm
        refine ⟨v1, rfl, .str u, rfl, v1, p1, u, rfl, isp1N.mono (same_tup sa), by omega, fun M1 q1 sM1 hq1 => ?_⟩
        refine ⟨.ref b2, rfl, .str u, rfl, .ref b2, red p1, u, rfl, isp2N.mono (same_tup (sa.trans sM1)), by omega, fun M2 q2 sM2 hq2 => ?_⟩
        have e : q1 = q2 := by
          rw [Bool.eq_iff_iff, hq1, hq2]
          exact red_lg p1 _
        refine ⟨rfl, _, rfl, ?_⟩
        rw [e, show (!decide (V.bl q2 = V.bl q2)) = false by simp]
        exact iteF ⟨_, rfl, (sm.trans sM1).trans sM2⟩
      rintro σ N2 ⟨y7', rfl, sN2⟩
      have sN' := s7.trans sN2
      have TN2 := TN.same sN'
      have isp1' := isp1N.mono (same_tup sN')
      have isp2' := isp2N.mono (same_tup sN')
      -- long words
      have ul1 := unf_len (m := 9) (by decide) p1 l31
      have ul2 := unf_len (m := 9) (by decide) (red p1) l3r
      have lg1 : Lg p1 (unf p1 9) := Lg.unf 9 p1 fun f hf q => (ok1 f hf).2.2 q
      have lg2 : Lg (red p1) (unf (red p1) 9) := Lg.unf 9 (red p1) fun f hf q => (okr f hf).2.2 q
      refine ⟨.ref b2, rfl, v1, rfl, v1, p1, 9, rfl, isp1', l31, by omega, by decide, by decide, fun H8 r8 s8 hr8 => ?_⟩
      have hr8' : tl r8 = unf p1 9 := hr8
      refine ⟨.ref b2, red p1, r8, rfl, isp2'.mono (same_tup s8), fok_w1 okr, fun f hf => fok_low al (okr f hf), by rw [hr8']; omega, over_low al fun c hc => over_unf ok1 (m := 9) (by rw [← hr8']; exact hc), fun H9 q9 s9 hq9 => ?_⟩
      have e9 : q9 = true := by
        rw [hq9, hr8']
        exact (red_lg p1 _).mp lg1
      rw [e9]
      refine ⟨_, rfl, iteF ?_⟩
      have s89 := s8.trans s9
      refine ⟨v1, rfl, .ref b2, rfl, .ref b2, red p1, 9, rfl, isp2'.mono (same_tup s89), l3r, by omega, by decide, by decide, fun H10 r10 s10 hr10 => ?_⟩
      have hr10' : tl r10 = unf (red p1) 9 := hr10
      refine ⟨v1, p1, r10, rfl, isp1'.mono (same_tup (s89.trans s10)), fok_w1 ok1, fun f hf => fok_low al (ok1 f hf), by rw [hr10']; omega, over_low al fun c hc => over_unf okr (m := 9) (by rw [← hr10']; exact hc), fun H11 q11 s11 hq11 => ?_⟩
      have e11 : q11 = true := by
        rw [hq11, hr10']
        exact (red_lg p1 _).mpr lg2
      rw [e11]
      refine ⟨_, rfl, iteF ?_⟩
      have sall := (s89.trans s10).trans s11
      have T11 := TN2.same sall
      -- padded
      refine ⟨3, rfl, by decide, by decide, for_it walk_range (fun j σ H' => ∃ (v4 : V) (p4 : List Fc) (y6 : Option V), σ = [some (.ref a), some (.ref t), some (.int (0 + (i : Int))), some (.str z), some v4, some (.ref b2), y6, y7'] ∧ IsP K H' v4 p4 ∧ (∀ f ∈ p4, FOk z f) ∧ p4.length ≤ 8 + j ∧ red p4 = red p1 ∧ IsP K H' (.ref b2) (red p1) ∧ Tape H' t c (10000 * i + 1100 + 10 * j)) ⟨v1, p1, _, rfl, isp1'.mono (same_tup sall), ok1, by omega, rfl, isp2'.mono (same_tup sall), T11⟩ (fun _ _ _ _ _ => trivial) ?_ ?_⟩
      · rintro j x σ M M' hj ⟨v4, p4, y6, rfl, isp4, ok4, len4, red4, ispM, TM⟩ ⟨rfl, rfl⟩
        refine ⟨.ref t, rfl, .str z, rfl, v4, rfl, t, c, _, z, v4, p4, rfl, TM, by omega, al, isp4, ok4, by omega, fun M1 v5 p5 kM1 TM1 isp5 ok5 len5 red5 => ?_⟩
        refine ⟨v5, rfl, v5, p5, rfl, isp5, fun f hf => Nat.le_trans (fok_len al (ok5 f hf)) (by decide), by omega, fun M2 v6 sM2 isp6 => ?_⟩
        have isr := (ispM.mono (kp_tup kM1)).mono (same_tup sM2)
        refine ⟨.ref b2, rfl, pD (red p5), pD (red p1), isp6.dp, isr.dp, pD_shaped al (fun f hf => ok5 f (red_mem hf)), pD_shaped al okr, _, rfl, ?_⟩
        rw [pD_eqv, red5, red4, decide_eq_true rfl]
        exact iteF ⟨v5, p5, _, rfl, isp5.mono (same_tup sM2), ok5, by omega, red5.trans red4, isr, (TM1.same sM2).mono (by omega)⟩
      · rintro σ M ⟨v4, p4, y6, rfl, _, _, _, _, _, TM⟩
        exact ⟨_, _, _, _, _, _, rfl, TM.mono (by omega)⟩
    · rintro σ G ⟨y2, y3, y4, y5, y6, y7, rfl, T⟩
      exact k _
end
end DW
set_option maxHeartbeats 0
namespace DW
open PySem PySem.Spec PyProof.Rows L2
def mkD (x : Str) (st : Stmt) : He.DefD := ⟨(x, none), x, x, defArgs st, defBody st, defScope st, [], []⟩
def fn : List He.DefD := [mkD "law" sLaw, mkD "is_ascending" sIsAscending, mkD "is_word" sIsWord, mkD "is_factor" sIsFactor, mkD "is_product" sIsProduct, mkD "swallows" sSwallows, mkD "covers" sCovers, mkD "reduce_product" sReduceProduct, mkD "unfold" sUnfold, mkD "behind" sBehind, mkD "place_behind" sPlaceBehind, mkD "is_included" sIsIncluded, mkD "subwords_product" sSubwordsProduct, mkD "accepts" sAccepts, mkD "_law_begin" sBegin, mkD "_law_draw" sDraw, mkD "_law_pick" sPick, mkD "_law_alphabet" sAlpha, mkD "_law_factor" sFactor, mkD "_law_product" sProduct, mkD "_law_words" sLWords, mkD "_law_in_product" sLInProduct, mkD "_law_holds" sLHolds, mkD "_law_padded" sLPadded]
def fa : List He.Fa := [.glo "law", .glo "is_ascending", .glo "is_word", .glo "is_factor", .glo "is_product", .glo "swallows", .glo "covers", .glo "reduce_product", .glo "unfold", .glo "behind", .glo "place_behind", .glo "is_included", .glo "subwords_product", .glo "accepts", .glo "_law_begin", .glo "_law_draw", .glo "_law_pick", .glo "_law_alphabet", .glo "_law_factor", .glo "_law_product", .glo "_law_words", .glo "_law_in_product", .glo "_law_holds", .glo "_law_padded", .free "all", .free "zip", .free "isinstance", .free "str", .free "tuple", .free "len", .free "range", .free "sorted", .free "set", .free "list"]
abbrev R : PySem.W.OpenRow := PySem.W.OpenLaw.row PySem.Challenge.rw_downwords_k09_whole_reduced_products
abbrev hk : PySem.W.Hook := He.hookD 4 fa fn
def ob (s : PySem.W.SharedT) : He.AlD := He.obsDG 4 fa fn (HandSHeadRun.getT s)
theorem ob_eq (s : PySem.W.SharedT) : ob s = hk.obs s.abs := He.obsDG_eq (HandSHeadRun.getT_eq s)
abbrev names : List Str := ["__name__", "is_ascending", "is_word", "is_factor", "is_product", "swallows", "covers", "reduce_product", "unfold", "behind", "place_behind", "is_included", "subwords_product", "accepts", "_law_begin", "_law_draw", "_law_pick", "_law_alphabet", "_law_factor", "_law_product", "_law_words", "_law_in_product", "_law_holds", "_law_padded"]
theorem run (w : World) : HandSHeadRun.RunEq R (PySem.W.view R.prog [26]) hk ob 4000 names w := by
  intro os
  kernel_rfl
theorem df {K : PySem.W.Frag} {h : Heap} {mg : Str → Option Value} {x : Str} {st : Stmt} {ps : List Str} (X : K.In h) (G : h.Ns mainGlobals mg) (hf : ∃ fd, FunD K x x (defArgs st) (defBody st) (defScope st) [] [] (He.fAd K (x, none)) fd) (hg : (He.Fa.glo x).ok K = true)
    (b : ∀ (kV doc pm : Value) (an : Option Addr) (cdv ct : Value) (us : List Value), us.length = ps.length → bindArgs (PySem.W.fnOf x x (defArgs st) (defBody st) (defScope st) .none kV doc pm an cdv ct) ⟨us, []⟩ = pure (ps.zip us)) :
    ∃ D : Df K mg x st ps, D.f = He.fAd K (x, none) := by
  obtain ⟨fd, F⟩ := hf
  exact ⟨⟨He.fAd K (x, none), fd, F, He.glo_ok X G hg, F.bindsN b⟩, rfl⟩
theorem facts {P : Program} {w : World} {K : PySem.W.Frag} {h : Heap} {mg : Str → Option Value} {f : Addr} (X : K.In h) (G : h.Ns mainGlobals mg) (hfa : mg ("law" : Str) = some (.ref f)) (c : He.SaysD fa fn K) :
    ∃ fd : FuncData, (∀ (s : Shared) (v : Value), BindsTo s fd ⟨[v], []⟩ [("_law_script", v)]) ∧ ∀ base : Heap, K.In base → base.Ns mainGlobals mg → FnOk P w K mg base CX0 6 f fd ["_law_script"] (spLaw K) := by
  have e := hfa.symm.trans (He.glo_ok X G (c.fact 0 (f := .glo "law") rfl))
  cases e
  obtain ⟨D0, e0⟩ := df (st := sLaw) (ps := ["_law_script"]) X G (c.def_ 0 (d := mkD "law" sLaw) rfl) (c.fact 0 (f := .glo "law") rfl) fun _ _ _ _ _ _ us hl => match us, hl with | [_], _ => rfl
  obtain ⟨D1, e1⟩ := df (st := sIsAscending) (ps := ["letters"]) X G (c.def_ 1 (d := mkD "is_ascending" sIsAscending) rfl) (c.fact 1 (f := .glo "is_ascending") rfl) fun _ _ _ _ _ _ us hl => match us, hl with | [_], _ => rfl
  obtain ⟨D2, e2⟩ := df (st := sIsWord) (ps := ["alphabet", "thing"]) X G (c.def_ 2 (d := mkD "is_word" sIsWord) rfl) (c.fact 2 (f := .glo "is_word") rfl) fun _ _ _ _ _ _ us hl => match us, hl with | [_, _], _ => rfl
  obtain ⟨D3, e3⟩ := df (st := sIsFactor) (ps := ["alphabet", "thing"]) X G (c.def_ 3 (d := mkD "is_factor" sIsFactor) rfl) (c.fact 3 (f := .glo "is_factor") rfl) fun _ _ _ _ _ _ us hl => match us, hl with | [_, _], _ => rfl
  obtain ⟨D4, e4⟩ := df (st := sIsProduct) (ps := ["alphabet", "thing"]) X G (c.def_ 4 (d := mkD "is_product" sIsProduct) rfl) (c.fact 4 (f := .glo "is_product") rfl) fun _ _ _ _ _ _ us hl => match us, hl with | [_, _], _ => rfl
  obtain ⟨D5, e5⟩ := df (st := sSwallows) (ps := ["factor", "other"]) X G (c.def_ 5 (d := mkD "swallows" sSwallows) rfl) (c.fact 5 (f := .glo "swallows") rfl) fun _ _ _ _ _ _ us hl => match us, hl with | [_, _], _ => rfl
  obtain ⟨D6, e6⟩ := df (st := sCovers) (ps := ["factor", "other"]) X G (c.def_ 6 (d := mkD "covers" sCovers) rfl) (c.fact 6 (f := .glo "covers") rfl) fun _ _ _ _ _ _ us hl => match us, hl with | [_, _], _ => rfl
  obtain ⟨D7, e7⟩ := df (st := sReduceProduct) (ps := ["product"]) X G (c.def_ 7 (d := mkD "reduce_product" sReduceProduct) rfl) (c.fact 7 (f := .glo "reduce_product") rfl) fun _ _ _ _ _ _ us hl => match us, hl with | [_], _ => rfl
  obtain ⟨D8, e8⟩ := df (st := sUnfold) (ps := ["product", "count"]) X G (c.def_ 8 (d := mkD "unfold" sUnfold) rfl) (c.fact 8 (f := .glo "unfold") rfl) fun _ _ _ _ _ _ us hl => match us, hl with | [_, _], _ => rfl
  obtain ⟨D9, e9⟩ := df (st := sBehind) (ps := ["product", "place"]) X G (c.def_ 9 (d := mkD "behind" sBehind) rfl) (c.fact 9 (f := .glo "behind") rfl) fun _ _ _ _ _ _ us hl => match us, hl with | [_, _], _ => rfl
  obtain ⟨D10, e10⟩ := df (st := sPlaceBehind) (ps := ["product", "other", "start"]) X G (c.def_ 10 (d := mkD "place_behind" sPlaceBehind) rfl) (c.fact 10 (f := .glo "place_behind") rfl) fun _ _ _ _ _ _ us hl => match us, hl with | [_, _, _], _ => rfl
  obtain ⟨D11, e11⟩ := df (st := sIsIncluded) (ps := ["product", "other"]) X G (c.def_ 11 (d := mkD "is_included" sIsIncluded) rfl) (c.fact 11 (f := .glo "is_included") rfl) fun _ _ _ _ _ _ us hl => match us, hl with | [_, _], _ => rfl
  obtain ⟨D12, e12⟩ := df (st := sSubwordsProduct) (ps := ["word"]) X G (c.def_ 12 (d := mkD "subwords_product" sSubwordsProduct) rfl) (c.fact 12 (f := .glo "subwords_product") rfl) fun _ _ _ _ _ _ us hl => match us, hl with | [_], _ => rfl
  obtain ⟨D13, e13⟩ := df (st := sAccepts) (ps := ["product", "word"]) X G (c.def_ 13 (d := mkD "accepts" sAccepts) rfl) (c.fact 13 (f := .glo "accepts") rfl) fun _ _ _ _ _ _ us hl => match us, hl with | [_, _], _ => rfl
  obtain ⟨D14, e14⟩ := df (st := sBegin) (ps := ["_law_script"]) X G (c.def_ 14 (d := mkD "_law_begin" sBegin) rfl) (c.fact 14 (f := .glo "_law_begin") rfl) fun _ _ _ _ _ _ us hl => match us, hl with | [_], _ => rfl
  obtain ⟨D15, e15⟩ := df (st := sDraw) (ps := ["_law_tape", "_law_many"]) X G (c.def_ 15 (d := mkD "_law_draw" sDraw) rfl) (c.fact 15 (f := .glo "_law_draw") rfl) fun _ _ _ _ _ _ us hl => match us, hl with | [_, _], _ => rfl
  obtain ⟨D16, e16⟩ := df (st := sPick) (ps := ["_law_tape", "_law_items"]) X G (c.def_ 16 (d := mkD "_law_pick" sPick) rfl) (c.fact 16 (f := .glo "_law_pick") rfl) fun _ _ _ _ _ _ us hl => match us, hl with | [_, _], _ => rfl
  obtain ⟨D17, e17⟩ := df (st := sAlpha) (ps := ["_law_tape"]) X G (c.def_ 17 (d := mkD "_law_alphabet" sAlpha) rfl) (c.fact 17 (f := .glo "_law_alphabet") rfl) fun _ _ _ _ _ _ us hl => match us, hl with | [_], _ => rfl
  obtain ⟨D18, e18⟩ := df (st := sFactor) (ps := ["_law_tape", "_law_alphabet_here"]) X G (c.def_ 18 (d := mkD "_law_factor" sFactor) rfl) (c.fact 18 (f := .glo "_law_factor") rfl) fun _ _ _ _ _ _ us hl => match us, hl with | [_, _], _ => rfl
  obtain ⟨D19, e19⟩ := df (st := sProduct) (ps := ["_law_tape", "_law_alphabet_here", "_law_longest"]) X G (c.def_ 19 (d := mkD "_law_product" sProduct) rfl) (c.fact 19 (f := .glo "_law_product") rfl) fun _ _ _ _ _ _ us hl => match us, hl with | [_, _, _], _ => rfl
  obtain ⟨D20, e20⟩ := df (st := sLWords) (ps := ["_law_alphabet_here", "_law_longest"]) X G (c.def_ 20 (d := mkD "_law_words" sLWords) rfl) (c.fact 20 (f := .glo "_law_words") rfl) fun _ _ _ _ _ _ us hl => match us, hl with | [_, _], _ => rfl
  obtain ⟨D21, e21⟩ := df (st := sLInProduct) (ps := ["_law_product_here", "_law_word"]) X G (c.def_ 21 (d := mkD "_law_in_product" sLInProduct) rfl) (c.fact 21 (f := .glo "_law_in_product") rfl) fun _ _ _ _ _ _ us hl => match us, hl with | [_, _], _ => rfl
  obtain ⟨D22, e22⟩ := df (st := sLHolds) (ps := ["_law_factor_here", "_law_other"]) X G (c.def_ 22 (d := mkD "_law_holds" sLHolds) rfl) (c.fact 22 (f := .glo "_law_holds") rfl) fun _ _ _ _ _ _ us hl => match us, hl with | [_, _], _ => rfl
  obtain ⟨D23, e23⟩ := df (st := sLPadded) (ps := ["_law_tape", "_law_alphabet_here", "_law_product_here"]) X G (c.def_ 23 (d := mkD "_law_padded" sLPadded) rfl) (c.fact 23 (f := .glo "_law_padded") rfl) fun _ _ _ _ _ _ us hl => match us, hl with | [_, _, _], _ => rfl
  have b := FunD.bindsA (ps := ["_law_script"]) D0.F fun _ _ _ _ _ _ us hl => match us, hl with | [_], _ => rfl
  refine ⟨D0.fd, fun s v => b s [v] rfl, fun base _ _ => ?_⟩
  have q := ok_law (P := P) (w := w) (base := base) D0 ⟨D1, D2, D3, D4, D5, D6, D7, D8, D9, D10, D11, D12, D13, D14, D15, D16, D17, D18, D19, D20, D21, D22, D23, ⟨He.free_ok X G (c.fact 29 (f := .free "len") rfl), He.free_ok X G (c.fact 30 (f := .free "range") rfl), He.free_ok X G (c.fact 31 (f := .free "sorted") rfl), He.free_ok X G (c.fact 32 (f := .free "set") rfl)⟩, He.free_ok X G (c.fact 24 (f := .free "all") rfl), He.free_ok X G (c.fact 25 (f := .free "zip") rfl), He.free_ok X G (c.fact 26 (f := .free "isinstance") rfl), He.free_ok X G (c.fact 27 (f := .free "str") rfl), He.free_ok X G (c.fact 28 (f := .free "tuple") rfl), He.free_ok X G (c.fact 33 (f := .free "list") rfl)⟩
  rw [e0] at q
  exact q
end DW
open PySem PySem.W PySem.Calls PyProof.Rows
theorem PySem.Challenge.cw_downwords_k09_whole_reduced_products_holds : PySem.Challenge.rw_downwords_k09_whole_reduced_products.Holds := by
  w_on; o_law
  refine HandSHeadRun.head_any (r := OpenLaw.row PySem.Challenge.rw_downwords_k09_whole_reduced_products) (q := view (OpenLaw.row PySem.Challenge.rw_downwords_k09_whole_reduced_products).prog [26]) (H := DW.hk) (ob := DW.ob) (M := 4000) (loose := DW.names) (d := HandSHeadRun.topDef (OpenLaw.row PySem.Challenge.rw_downwords_k09_whole_reduced_products).prog 26) (kwd := []) DW.ob_eq
    (by kernel_rfl) (fun s => by kernel_rfl) DW.run (by kernel_rfl) (by kernel_rfl) (by kernel_rfl) (by rfl) (by first | assumption | decide +kernel) (by decide +kernel) ⟨rfl, rfl, rfl, rfl, rfl, by decide +kernel⟩ ?hw ?hc
  case hw => w_witness2
  case hc =>
    refine L2.walk_ofE (l := PySem.Challenge.rw_downwords_k09_whole_reduced_products) (n := 63) (k := 6) (x := "_law_script") (CX := L2.CX0) rfl (by decide) (by kernel_rfl) ⟨rfl, by decide, by decide⟩ ?F (fun _ _ _ _ z => z)
    intro w mg fa h Y G hmg0
    obtain ⟨K, KX, c⟩ := Y
    have hmg : mg ("law" : PySem.Str) = some (.ref fa) := by
      have e : (HandSHeadRun.topDef (OpenLaw.row PySem.Challenge.rw_downwords_k09_whole_reduced_products).prog 26).name = ("law" : PySem.Str) := by kernel_rfl
      rw [← e]
      exact hmg0
    obtain ⟨fd, hb, hF⟩ := DW.facts (P := (PySem.Challenge.rw_downwords_k09_whole_reduced_products).prog) (w := w) KX G hmg c
    exact ⟨K, fd, DW.spLaw K, KX, hb, fun H a ns hl _ hS => ⟨a, ns, rfl, hS, fun _ => rfl⟩, hF⟩
