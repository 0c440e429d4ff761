import PyProof.Rows.All
import Wide.All
import OpenK.AllK
import Wide.FinOn
import HandS.List
import HandS.SetTxt0
import HandS.SetFor
import HandS.Strs
import HandS.Iter
import HandS.Walk
import KE.GoesMore
import KE.GoesZip
import HandS.Text
import PyProof.ListStr
import KE.KRevSl
import HandS.ForMost
import PyProof.FString2
import KE.KExcSuper
import HandS.Nested
import HandS.Exc
import HandS.ExcOwn
import HandS.ExcInit
import KE.KExcIs
import HandS.FStr
import HandS.ExcField
import HandS.HeadHook1
import HandS.HeadHook2
import HandS.Defaults
import HandS.HeadEnd
import HandS.SortKw
import KE.SortKeyHeap
import HandS.TupMul
import KE.SortData
import HandS.Flow
import HandS.Small
import HandS.Codes
import HandS.WordsExc
import HandS.Style
import HandS.RaiseMore
import HandS.Conv
import HandS.StrMore
import HandS.NoneIn
import HandS.TryOnly
import KE.KStateDown
import Lean
import HandS.More
import HandS.Head0
import HandS.Head1
import HandS.Head2
import PySem.Challenge.RW_downwords_k04_common_superwords
set_option Elab.async false
set_option linter.all false
set_option maxRecDepth 100000
set_option maxHeartbeats 2000000
/-! Sets of texts: set(list of texts), set(text), sorted(set). -/
namespace TX
open PySem PySem.Spec PyProof.Rows L2 PySem.Froz

/-! ### lists -/
theorem perm_of_sub {α : Type} [DecidableEq α] : ∀ (l ks : List α), l.Nodup → (∀ x ∈ l, x ∈ ks) → ks.length ≤ l.length → ks.Perm l
  | [], ks, _, _, hl => by
    have e : ks = [] := List.length_eq_zero_iff.mp (Nat.le_zero.mp hl)
    rw [e]
  | x :: l, ks, nd, sub, hl => by
    obtain ⟨hx, nd'⟩ := List.nodup_cons.mp nd
    have hk : x ∈ ks := sub x List.mem_cons_self
    have p1 : ks.Perm (x :: ks.erase x) := List.perm_cons_erase hk
    have l1 : (ks.erase x).length = ks.length - 1 := List.length_erase_of_mem hk
    have sub' : ∀ y ∈ l, y ∈ ks.erase x := fun y hy => by
      have ne : y ≠ x := fun e => hx (e ▸ hy)
      exact (List.mem_erase_of_ne ne).mpr (sub y (List.mem_cons_of_mem _ hy))
    have p2 := perm_of_sub l (ks.erase x) nd' sub' (by rw [l1]; rw [List.length_cons] at hl; omega)
    exact p1.trans (p2.cons x)

/-! ### the set's state -/
structure Ok (P : Program) (w : World) (D : SD) (l : List Str) : Prop where
  tx : TxOk P w D l
  up : Ris D.2.2.place.toList
  led : w.params.followText "set-order" = true ∨ D.2.2.led = true
  nd : l.Nodup
def At (P : Program) (w : World) (h : Heap) (a : Addr) (l : List Str) : Prop := ∃ D : SD, h.get? a = some (sObj "set" D) ∧ Ok P w D l

section
variable {P : Program} {w : World} {A : Around} {E : Value → Shared → Prop} {s : Shared}
theorem At.move {h h' : Heap} {a : Addr} {l : List Str} (x : At P w h a l) (k : ∀ o, h.get? a = some o → h'.get? a = some o) : At P w h' a l := by
  obtain ⟨D, hD, o⟩ := x
  exact ⟨D, k _ hD, o⟩
theorem tail_up {ep : Nat} {es : Array (Int × Value)} {t : SetTable} {b : Bool} (r : Ris t.place.toList) : Ris (tailTx ep es t b).2.2.place.toList := by
  unfold tailTx
  by_cases c : (!b && t.tooFull) = true
  · rw [if_pos c]
    exact relayAll_ris _ _ _
  · rw [if_neg c]
    exact r
theorem tail_led {ep : Nat} {es : Array (Int × Value)} {t : SetTable} {b : Bool} : (tailTx ep es t b).2.2.led = t.led := by
  unfold tailTx
  by_cases c : (!b && t.tooFull) = true
  · rw [if_pos c]
    exact relayAll_led _ _ _
  · rw [if_neg c]
def dull (t : SetTable) : SetTable := if t.plain = true then { t with plain := false } else t
theorem dull_place (t : SetTable) : (dull t).place = t.place := by
  unfold dull
  by_cases c : t.plain = true
  · rw [if_pos c]
  · rw [if_neg c]
theorem dull_led (t : SetTable) : (dull t).led = t.led := by
  unfold dull
  by_cases c : t.plain = true
  · rw [if_pos c]
  · rw [if_neg c]
theorem Ok.add {D : SD} {l : List Str} {k : Str} (u : Tok) (o : Ok P w D l) (hk : k ∉ l) : Ok P w (addTx (hashStr w k) (.str k u) D) (k :: l) := by
  obtain ⟨es, ep, t⟩ := D
  have r1 : Ris (layNew t es (hashStr w k) (.str k u)).2.1.place.toList := layNew_ris t es _ _ o.up
  have l1 : (layNew t es (hashStr w k) (.str k u)).2.1.led = t.led := layNew_led t es _ _
  have e : addTx (hashStr w k) (.str k u) (es, ep, t) = tailTx ep (layNew t es (hashStr w k) (.str k u)).1 (dull (layNew t es (hashStr w k) (.str k u)).2.1) (layNew t es (hashStr w k) (.str k u)).2.2.1 := rfl
  refine ⟨add_ok u o.tx, ?_, ?_, List.nodup_cons.mpr ⟨hk, o.nd⟩⟩
  · rw [e]
    exact tail_up (by rw [dull_place]; exact r1)
  · refine o.led.imp id fun z => ?_
    rw [e, tail_led, dull_led, l1]
    exact z
theorem add_old {a : Addr} {T : String} {D : SD} {l : List Str} {k : Str} {u : Tok} {Q : Bool → Shared → Prop} (ho : s.heap.get? a = some (sObj T D)) (o : TxOk P w D l) (hk : k ∈ l) (hb : l.length < scanBound) (h : Q false s) :
    wpAny (model P w) A (setAddHashed a (.str k u) (hashStr w k)) Q E s := by
  obtain ⟨es, ep, t⟩ := D
  have dd : (sObj T (es, ep, t)).data = .set es ep t := rfl
  have ft : t.fits es.size = true := o.fit
  have el : ElemsOf (strKind P w) es.toList := o.el
  have z : es.size = l.length := o.sz
  have b0 : es.size < scanBound := by omega
  have ky : (strKind P w).is k (.str k u) = true := is_str k u
  obtain ⟨e0, he0, q0⟩ := (o.mem k).mp hk
  unfold setAddHashed setAddHashedIn
  refine wpAny_holding (wpAny_bind (wpAny_setState_of ho dd ft ?_))
  dsimp only
  rw [byScan_of rfl b0 el]
  simp only [↓reduceIte]
  unfold setAddByScan
  refine wpAny_bind (wpAny_bind (wpAny_rule (wpAny_bind (wpAny_setScan_of (knd := strKind P w) (k := k) ky ho dd ft el ?_))))
  cases fi : List.findIdx? (fun e => (strKind P w).is k e.2) es.toList with
  | some j =>
    dsimp only
    exact wpAny_pure (wpAny_pure h)
  | none =>
    have c := List.findIdx?_eq_none_iff.mp fi e0 he0
    rw [q0] at c
    cases c

/-! ### the loop that fills it -/
theorem fill {I : Addr} {fp wr : List Addr} {G : Array GenState → Array GenState → Prop} {n : Nat} {Pv : Nat → Value → Prop} {St : Nat → Shared → Prop} {R : Result → Shared → Prop}
    (W : WalksS P w A.in1 I fp wr G n Pv St) (a : Addr) (ha : a ∉ fp) (xs : List Str) (hn : n = xs.length) (hb : xs.length + 1 < scanBound) (hv : ∀ i v, Pv i v → ∃ k t, xs[i]? = some k ∧ v = .str k t) :
    ∀ (m i : Nat) (s : Shared), n - i = m → i ≤ n → St i s → (∃ l, At P w s.heap a l ∧ l.length ≤ i ∧ ∀ k, k ∈ l ↔ k ∈ xs.take i) →
      (∀ s' l, Moved (a :: wr) G s s' → At P w s'.heap a l → (∀ k, k ∈ l ↔ k ∈ xs) → l.length ≤ n → R (.ok (.ret .none)) s') →
      codeAny (model P w) A (.builtin "set.update.loop" ⟨[.ref a, .ref I], []⟩) R s := by
  have aw : a ∉ wr := fun q => ha (W.sub _ q)
  have ww : ∀ b ∈ wr, b ∈ a :: wr := fun b q => List.mem_cons_of_mem _ q
  intro m
  induction m with
  | zero =>
    intro i s em hi st ⟨l, hA, hl, mem⟩ hR
    obtain rfl : i = n := by omega
    refine codeAny_builtin F.entry_set_update_loop ?_
    rw [Around.under_plainId F.plain_set_update_loop _]
    show wpAny _ A.in1 (pyNext (.ref I) >>= _) _ _ s
    refine wpAny_bind (W.done s _ _ st fun s' mv => ?_)
    show wpAny _ A.in1 (ret Value.none) _ _ s'
    have et : xs.take i = xs := List.take_of_length_le (by omega)
    rw [et] at mem
    exact wpAny_pure (hR s' l (mv.mono ww) (hA.move fun o e => mv.heap a o aw e) mem hl)
  | succ m ih =>
    intro i s em hi st ⟨l, hA, hl, mem⟩ hR
    have lt : i < n := by omega
    refine codeAny_builtin F.entry_set_update_loop ?_
    rw [Around.under_plainId F.plain_set_update_loop _]
    show wpAny _ A.in1 (pyNext (.ref I) >>= _) _ _ s
    refine wpAny_bind (W.item i s _ _ lt st fun v s1 hP st1 mv => ?_)
    obtain ⟨k, t, hk, rfl⟩ := hv i v hP
    obtain ⟨D, hD, oD⟩ := hA.move (h' := s1.heap) fun o e => mv.heap a o aw e
    show wpAny _ A.in1 (holding [Value.str k t] (setAdd a (.str k t)) >>= _) _ _ s1
    refine wpAny_bind (wpAny_holding ?_)
    unfold setAdd
    refine wpAny_holding (wpAny_bind ((strKind P w).pyHash (k := k) (is_str k t) ?_))
    have tk : xs.take (i + 1) = xs.take i ++ [k] := by rw [List.take_add_one, hk] <;> rfl
    by_cases kl : k ∈ l
    · refine add_old (s := { s1 with toks := s1.toks + 1 }) hD oD.tx kl (by omega) ?_
      refine wpAny_pure ⟨plainId_quiet F.plain_set_update_loop _, ih (i + 1) _ (by omega) lt (W.frame _ s1 _ _ st1 (Nat.le_succ _) fun b _ o e => e) ⟨l, ⟨D, hD, oD⟩, by omega, fun j => ?_⟩ fun s2 l2 mv2 hA2 mem2 hl2 => ?_⟩
      · rw [tk, List.mem_append, List.mem_singleton, ← mem j]
        exact ⟨.inl, fun q => q.elim id fun e => e ▸ kl⟩
      · exact hR s2 l2 (Moved.trans W.gtrans ((mv.mono ww).then_heap (Nat.le_succ _) fun b o _ e => e) mv2) hA2 mem2 hl2
    · refine add_x (s := { s1 with toks := s1.toks + 1 }) hD oD.tx kl (by omega) ?_
      have hg : (s1.heap.update a (fun _ => sObj "set" (addTx (hashStr w k) (.str k t) D))).get? a = some (sObj "set" (addTx (hashStr w k) (.str k t) D)) := get_upd _ hD rfl
      have ot : ∀ b o, b ≠ a → s1.heap.get? b = some o → (s1.heap.update a (fun _ => sObj "set" (addTx (hashStr w k) (.str k t) D))).get? b = some o :=
        fun b o ne e => (Heap.get?_update_other _ _ (Ne.symm ne)).trans e
      refine wpAny_pure ⟨plainId_quiet F.plain_set_update_loop _, ih (i + 1) _ (by omega) lt (W.frame _ s1 _ _ st1 (Nat.le_succ _) fun b q o e => ?_) ⟨k :: l, ⟨_, hg, oD.add t kl⟩, by rw [List.length_cons]; omega, fun j => ?_⟩ fun s2 l2 mv2 hA2 mem2 hl2 => ?_⟩
      · exact ot b o (fun z => ha (z ▸ q)) e
      · rw [tk, List.mem_append, List.mem_singleton, ← mem j, List.mem_cons]
        exact Or.comm
      · refine hR s2 l2 (Moved.trans W.gtrans ((mv.mono ww).then_heap (Nat.le_succ _) fun b o q e => ?_) mv2) hA2 mem2 hl2
        exact ot b o (fun z => q (z ▸ List.mem_cons_self)) e
end

/-! ### set(v) -/
abbrev fresh (w : World) : Obj := { cls := .type "set", dict := none, data := .set #[] 0 (.fresh 0 0 (!w.params.followText "set-order")) }
theorem fresh_ok {P : Program} {w : World} : Ok P w (#[], 0, .fresh 0 0 (!w.params.followText "set-order")) [] where
  tx := TxOk.nil (by rfl)
  up := List.Pairwise.nil
  led := by
    show _ ∨ (!w.params.followText "set-order") = true
    cases w.params.followText "set-order"
    · exact .inr rfl
    · exact .inl rfl
  nd := List.nodup_nil
theorem at_fresh {P : Program} {w : World} {h : Heap} {a : Addr} (e : h.get? a = some (fresh w)) : At P w h a [] := ⟨(#[], 0, .fresh 0 0 (!w.params.followText "set-order")), e, fresh_ok⟩

section
variable {P : Program} {w : World} {A : Around} {E : Value → Shared → Prop} {s : Shared}
/-- what set(v) leaves: a new object, all else as it was -/
def Left (P : Program) (w : World) (s : Shared) (xs : List Str) (s' : Shared) : Prop :=
  ∃ h' tk l, s' = { s with heap := h', toks := tk } ∧ At P w h' s.heap.objs.size l ∧ (∀ k, k ∈ l ↔ k ∈ xs) ∧ l.length ≤ xs.length ∧ ∀ b o, s.heap.get? b = some o → h'.get? b = some o
set_option maxHeartbeats 4000000 in
theorem call_set_of {v : Value} {xs : List Str} {Q : Value → Shared → Prop}
    (hI : ∀ A' : Around, A'.handled = A.handled → wpAny (model P w) A' (Builtin.«set.__init__» ⟨[.ref s.heap.objs.size, v], []⟩) (fun f s2 => f = .done (.ret .none) ∧ Left P w s xs s2) E { s with heap := s.heap.push (fresh w) })
    (h : ∀ s', Left P w s xs s' → Q (.ref s.heap.objs.size) s') :
    wpAny (model P w) A (call (.type "set") [v]) Q E s := by
  obtain ⟨c, tl, hmro⟩ := F.called_set.mro
  have hmade := F.called_set.made
  have hsub := F.called_set.sub
  refine wpAny_call (codeAny_of_tree ?_)
  show wpAny _ _ (callAny (.type "set") _) _ _ _
  refine wpAny_pure ⟨Code.quiet_builtin _ (by decide +kernel), codeAny_builtin F.entry_type_call ?_⟩
  rw [Around.under_plain (weight_type_call_type "set" [v] []) rfl]
  have h1 := F.called_set.notType
  have h2 := F.called_set.canCreate
  have hct := F.typeCall_set_1 v
  repeat (any_goals (first | assumption | wp_step))
  refine codeAny_mono (code_set_led1 v (E := E) (Q₁ := fun obj s₁ => obj = .ref s.heap.objs.size ∧ s₁ = { s with heap := s.heap.push (fresh w) }) ⟨rfl, rfl⟩) fun r s₁ hr => ?_
  cases r with
  | error e => exact hr
  | ok fl =>
    cases fl with
    | ret obj =>
      obtain ⟨rfl, rfl⟩ := hr
      have hS : (s.heap.push (fresh w)).get? s.heap.objs.size = some (fresh w) := Heap.get?_push_size _ rfl
      have hT : Shared.TypeIs { s with heap := s.heap.push (fresh w) } (.ref s.heap.objs.size) "set" := ⟨_, hS, rfl⟩
      have hli := F.called_set.init.lookup
      have hbi := F.called_set.init.bind (.ref s.heap.objs.size)
      repeat (any_goals (first | assumption | wp_step))
      refine codeAny_mono (codeAny_call_builtin (R := wants (fun r s₂ => r = .none ∧ Left P w s xs s₂) E) F.called_set.init.plain F.entry_set_init (check_set_init_1 hT ?_)) fun r₂ s₂ hr₂ => ?_
      · refine wpAny_mono (hI A.in1.in1 (by simp)) (fun f s2 q => ?_) fun e s2 q => q
        obtain ⟨rfl, q⟩ := q
        exact ⟨rfl, q⟩
      · cases r₂ with
        | error e => exact hr₂
        | ok fl₂ =>
          cases fl₂ with
          | ret r =>
            obtain ⟨rfl, hL⟩ := hr₂
            repeat (any_goals (first | assumption | wp_step))
            exact h _ hL
          | _ => exact hr₂.elim
    | _ => exact hr.elim
theorem left_of {a : Addr} {wr : List Addr} {xs l : List Str} {s s1 s' : Shared} (ea : a = s.heap.objs.size) (hw : ∀ b ∈ wr, s.heap.objs.size ≤ b) (k1 : ∀ b o, s.heap.get? b = some o → s1.heap.get? b = some o)
    (eg : s1.gens = s.gens) (ed : s1.drawn = s.drawn) (eo : s1.os = s.os) (mv : Moved (a :: wr) (fun x y => y = x) s1 s') (hA : At P w s'.heap a l) (mem : ∀ k, k ∈ l ↔ k ∈ xs) (hl : l.length ≤ xs.length) : Left P w s xs s' := by
  obtain ⟨h', g', d', tk', os'⟩ := s'
  have e1 : g' = s.gens := mv.gens.trans eg
  have e2 : d' = s.drawn := mv.drawn.trans ed
  have e3 : os' = s.os := mv.os.trans eo
  subst e1 e2 e3 ea
  refine ⟨h', tk', l, rfl, hA, mem, hl, fun b o e => ?_⟩
  have lt : b < s.heap.objs.size := Heap.lt_size e
  refine mv.heap b o (fun z => ?_) (k1 b o e)
  rcases List.mem_cons.mp z with z | z
  · exact absurd z (Nat.ne_of_lt lt)
  · exact absurd (hw b z) (Nat.not_le_of_lt lt)
set_option maxHeartbeats 4000000 in
theorem init_list {l : Addr} {items : Array Value} {xs : List Str} (hh : A.handled = none) (hl : s.heap.IsList l items) (hi : StrsAre items.toList xs) (hb : xs.length + 1 < scanBound) :
    wpAny (model P w) A (Builtin.«set.__init__» ⟨[.ref s.heap.objs.size, .ref l], []⟩) (fun f s2 => f = .done (.ret .none) ∧ Left P w s xs s2) E { s with heap := s.heap.push (fresh w) } := by
  have hsz : xs.length = items.size := by rw [← StrsAre.len_eq hi, Array.length_toList]
  have hv : ∀ (i : Nat) (v : Value), items[i]? = some v → ∃ k t, xs[i]? = some k ∧ v = .str k t := fun i v q => by
    have hi' : i < xs.length := by rw [hsz]; exact (Array.getElem?_eq_some_iff.mp q).1
    obtain ⟨t, e⟩ := SS.strs_at hi i v (by rw [Array.getElem?_toList]; exact q)
    refine ⟨xs[i], t, List.getElem?_eq_getElem hi', ?_⟩
    rw [e, List.getD_eq_getElem?_getD, List.getElem?_eq_getElem hi'] <;> rfl
  have hS : (s.heap.push (fresh w)).get? s.heap.objs.size = some (fresh w) := Heap.get?_push_size _ rfl
  have hT : Shared.TypeIs { s with heap := s.heap.push (fresh w) } (.ref s.heap.objs.size) "set" := ⟨_, hS, rfl⟩
  obtain ⟨ol, hol, hcl, nl, hdl⟩ := id hl
  obtain ⟨ocls, odict, odata, oslots⟩ := ol
  simp only at hcl hdl
  subst hcl; subst hdl
  have hol1 : (s.heap.push (fresh w)).get? l = some { cls := .type "list", dict := odict, data := .seq items nl, slots := oslots } := Heap.get?_push_of_some _ hol
  have f1 := F.sub_list_set
  have f2 := F.sub_list_frozenset
  have f3 : (Value.type "list" == Value.type "dict") = false := by decide
  have hl1 : (s.heap.push (fresh w)).IsList l items := ⟨_, hol1, rfl, nl, rfl⟩
  have lS : l < s.heap.objs.size := Heap.lt_size hol
  have nI : l ≠ (s.heap.push (fresh w)).objs.size := by
    rw [Heap.size_push]
    exact Nat.ne_of_lt (Nat.lt_succ_of_lt lS)
  have nS : s.heap.objs.size ∉ [(s.heap.push (fresh w)).objs.size, l] := by
    rw [Heap.size_push]
    intro q
    rcases List.mem_cons.mp q with q | q
    · exact absurd q (Nat.ne_of_lt (Nat.lt_succ_self _))
    · exact absurd (List.mem_singleton.mp q) (Nat.ne_of_gt lS)
  have z1 : (s.heap.push (fresh w)).objs.size = s.heap.objs.size + 1 := Heap.size_push ..
  unfold Builtin.«set.__init__» noKeywords Builtin.Frozenset.updateFrom
  generalize ePI : pyIter = PI
  wp_walk
  subst ePI
  refine wpAny_pyIter_list hl1 ?_
  refine wpAny_bind (wpAny_runValue ?_)
  refine fill ((Walks.list (by simp [hh]) _ l nI items).toS) s.heap.objs.size nS xs hsz.symm hb hv (items.size - 0) 0 _ rfl (Nat.zero_le _)
    ⟨⟨_, Heap.get?_push_size _ rfl, rfl, rfl⟩, hl1.push _⟩ ⟨[], at_fresh (Heap.get?_push_of_some _ hS), Nat.le_refl _, fun k => by simp⟩ fun s' m mv hA mem hm => ?_
  show wpAny _ _ _ _ _ _
  refine wpAny_pure ?_
  show wpAny _ _ (ret Value.none) _ _ _
  refine wpAny_pure ⟨rfl, left_of (wr := [_]) rfl ?_ ?k1 ?e1 ?e2 ?e3 mv hA mem (by omega)⟩
  case k1 => exact fun b o e => Heap.get?_push_of_some _ (Heap.get?_push_of_some _ e)
  case e1 => rfl
  case e2 => rfl
  case e3 => rfl
  intro b q
  rw [List.mem_singleton.mp q]
  show _ ≤ (s.heap.push (fresh w)).objs.size
  rw [z1]
  exact Nat.le_succ _
set_option maxHeartbeats 4000000 in
theorem init_text {x : Str} {t : Tok} (hh : A.handled = none) (hb : x.length + 1 < scanBound) :
    wpAny (model P w) A (Builtin.«set.__init__» ⟨[.ref s.heap.objs.size, .str x t], []⟩) (fun f s2 => f = .done (.ret .none) ∧ Left P w s (x.cps.toList.map fun c => (⟨#[c]⟩ : Str)) s2) E { s with heap := s.heap.push (fresh w) } := by
  have hsz : (x.cps.toList.map fun c => (⟨#[c]⟩ : Str)).length = x.cps.size := by rw [List.length_map, Array.length_toList]
  have hx : x.length = x.cps.size := rfl
  have hv : ∀ (i : Nat) (v : Value), SignAt x i v → ∃ k t, (x.cps.toList.map fun c => (⟨#[c]⟩ : Str))[i]? = some k ∧ v = .str k t := fun i v ⟨c, u, q, e⟩ => by
    refine ⟨⟨#[c]⟩, u, ?_, e⟩
    rw [List.getElem?_map, Array.getElem?_toList, q] <;> rfl
  have hS : (s.heap.push (fresh w)).get? s.heap.objs.size = some (fresh w) := Heap.get?_push_size _ rfl
  have hT : Shared.TypeIs { s with heap := s.heap.push (fresh w) } (.ref s.heap.objs.size) "set" := ⟨_, hS, rfl⟩
  have hTx : Shared.TypeIs { s with heap := s.heap.push (fresh w) } (.str x t) "str" := typeIs_str _ x t
  have f1 := PySem.F.sub_str_set
  have f2 := PySem.F.sub_str_frozenset
  have f3 : (Value.type "str" == Value.type "dict") = false := by decide
  have z1 : (s.heap.push (fresh w)).objs.size = s.heap.objs.size + 1 := Heap.size_push ..
  unfold Builtin.«set.__init__» noKeywords Builtin.Frozenset.updateFrom
  generalize ePI : pyIter = PI
  wp_walk
  subst ePI
  refine wpAny_pyIter_str fun o St W st => ?_
  refine wpAny_bind (wpAny_runValue ?_)
  refine fill ((W _ (by simp [hh])).toS) s.heap.objs.size (by rw [z1]; simp) _ hsz.symm (by rw [hsz, ← hx]; exact hb) hv (x.cps.size - 0) 0 _ rfl (Nat.zero_le _)
    st ⟨[], at_fresh (Heap.get?_push_of_some _ hS), Nat.le_refl _, fun k => by simp⟩ fun s' m mv hA mem hm => ?_
  show wpAny _ _ _ _ _ _
  refine wpAny_pure ?_
  show wpAny _ _ (ret Value.none) _ _ _
  refine wpAny_pure ⟨rfl, left_of (wr := [_]) rfl ?_ ?k1 ?e1 ?e2 ?e3 mv hA mem (by rw [hsz]; exact hm)⟩
  case k1 => exact fun b o e => Heap.get?_push_of_some _ (Heap.get?_push_of_some _ e)
  case e1 => rfl
  case e2 => rfl
  case e3 => rfl
  intro b q
  rw [List.mem_singleton.mp q]
  show _ ≤ (s.heap.push (fresh w)).objs.size
  rw [z1]
  exact Nat.le_succ _

/-! ### sorted(set) -/
theorem texts_of {es : List (Int × Value)} (el : ElemsOf (strKind P w) es) : ∀ vs : List Value, (∀ v ∈ vs, v ∈ es.map (·.2)) → ∃ ks : List Str, StrsAre vs ks ∧ (∀ k, k ∈ ks ↔ ∃ v ∈ vs, (strKind P w).is k v = true) ∧ ks.length = vs.length
  | [], _ => ⟨[], .nil, fun k => by simp, rfl⟩
  | v :: vs, h => by
    obtain ⟨ks, h1, h2, h3⟩ := texts_of el vs fun u q => h u (List.mem_cons_of_mem _ q)
    obtain ⟨e, he, ev⟩ := List.mem_map.mp (h v List.mem_cons_self)
    obtain ⟨⟨k, hk, _⟩, _⟩ := el e he
    rw [ev] at hk
    obtain ⟨t, rfl⟩ := Value.isStrOf_shape hk
    refine ⟨k :: ks, .cons k t h1, fun j => ?_, by rw [List.length_cons, List.length_cons, h3]⟩
    rw [List.mem_cons, h2 j]
    constructor
    · rintro (q | ⟨u, hu, q⟩)
      · exact ⟨_, List.mem_cons_self, by rw [q]; exact hk⟩
      · exact ⟨u, List.mem_cons_of_mem _ hu, q⟩
    · rintro ⟨u, hu, q⟩
      rcases List.mem_cons.mp hu with z | z
      · rw [z] at q
        exact .inl ((strKind P w).inj _ _ _ q hk)
      · exact .inr ⟨u, z, q⟩
theorem sorted_at {a : Addr} {l : List Str} {Q : Value → Shared → Prop} (R : At P w s.heap a l) (hh : A.handled = none) (h64 : l.length < 64)
    (hQ : ∀ s' p (out : Array Value) (c : Nat) (ys : List Str), (∀ b o, s.heap.get? b = some o → s'.heap.get? b = some o) → s'.gens = s.gens → s'.os = s.os → s.heap.objs.size ≤ p →
      s'.heap.get? p = some (seqObj "list" out c) → StrsAre out.toList ys → ys.Perm l → sortedS ys = true → Q (.ref p) s') :
    wpAny (model P w) A (call (.builtin "sorted") [.ref a]) Q E s := by
  obtain ⟨⟨es, ep, t⟩, ho, ok⟩ := R
  have ft : t.fits es.size = true := ok.tx.fit
  have z : es.size = l.length := ok.tx.sz
  have sb : es.size < scanBound := by
    unfold scanBound
    omega
  refine Calls.call_function_entry kind_sorted plain_sorted entry_sorted (args_sorted1 _) ?_
  unfold Builtin.«sorted»
  refine wpAny_bind (m := checkCount "sorted" 1 1 _) (wpAny_pure ?_)
  refine wpAny_bind (collect_set (A := A.in1) hh ⟨_, ho, rfl, rfl⟩ ft sb ok.up ok.led fun s1 vs k1 hz g1 o1 pm => ?_)
  obtain ⟨ks, hS, mem, hlen⟩ := texts_of ok.tx.el vs fun v hv => pm.mem_iff.mp hv
  have vl : vs.length = l.length := by rw [pm.length_eq, List.length_map, Array.length_toList]; exact z
  have pk : ks.Perm l := perm_of_sub l ks ok.nd (fun k hk => by
    obtain ⟨e, he, q⟩ := (ok.tx.mem k).mp hk
    exact (mem k).mpr ⟨e.2, pm.mem_iff.mpr (List.mem_map.mpr ⟨e, he, rfl⟩), q⟩) (by omega)
  refine wpAny_bind (wpAny_newList ?_ (by rw [vl, sizeLine_eq]; omega))
  have hoL : (s1.heap.push (seqObj "list" vs.toArray 0)).get? s1.heap.objs.size = some (seqObj "list" vs.toArray 0) := Heap.get?_push_size _ rfl
  refine wpAny_bind (wpAny_holding (wpAny_call_entry slot_list_sort ⟨_, hoL, rfl⟩ entry_list_sort
    (list_sort_treeK strKind_oneLt hoL hS.keysOf (fun v₁ v₂ rest e => keyKind_strs (by rw [← e]; exact hS)) (by rw [vl]; exact h64) fun st' hp hs => ?_) (args_list_sort _)))
  obtain ⟨ys, y1, y2, y3⟩ := sorted_out_str hS hp hs
  obtain ⟨c, hc⟩ := sortedHeap_at (vs := vs) (out := Array.map (fun x => x.snd) (arrOf st')) hoL
  refine ⟨_, rfl, wpAny_pure ⟨_, rfl, hQ _ s1.heap.objs.size _ c ys (fun b u e => ?_) g1 o1 hz hc y1 (y2.trans pk) y3⟩⟩
  have q := k1 b u e
  have lt := Heap.lt_size q
  show (sortedHeap (s1.heap.push (seqObj "list" vs.toArray 0)) s1.heap.objs.size vs _).get? b = some u
  rw [sortedHeap_old (Nat.ne_of_lt lt) (by rw [Heap.size_push]; exact Nat.lt_succ_of_lt lt)]
  exact Heap.get?_push_of_some _ q
end

/-! ### over the layer -/
def SetTx (P : Program) (w : World) (a : Addr) (l : List Str) : HO := .ext fun h => At P w h a l
theorem setTx_new {P : Program} {w : World} {H : Hp} {h : Heap} {a : Addr} {l : List Str} (R : At P w h a l) : ObjOk P w H h a (SetTx P w a l) := by
  have ⟨D, hD, _⟩ := R
  exact ⟨R, ⟨_, hD⟩, fun h1 h2 p k => At.move p k⟩
section
variable {X : Cx}
/-- set(xs), xs a list of texts -/
def rSetL (K : PySem.W.Frag) (P : Program) (w : World) : List V → Hp → VK → Prop := fun xs H Q => ∃ (l : Addr) (ss : List Str), xs = [V.ref l] ∧ SqL K H l (ss.map V.str) ∧ ss.length + 1 < scanBound ∧
  ∀ (a : Addr) (ls : List Str), H a = none → ls.Nodup → (∀ k, k ∈ ls ↔ k ∈ ss) → ls.length ≤ ss.length → Q (.ref a) (upd H a (SetTx P w a ls))
theorem At.nd {P : Program} {w : World} {h : Heap} {a : Addr} {l : List Str} (x : At P w h a l) : l.Nodup := by
  obtain ⟨D, _, o⟩ := x
  exact o.nd
theorem cr_setL (hc : X.calm = true) : CallR X (.type "set") (rSetL X.K X.prog X.w) := by
  intro pins s σ H xs us Q I r h
  obtain ⟨l, ss, rfl, hs, hb, q⟩ := h
  obtain ⟨its, rv, hl, _⟩ := I.list hs
  rw [Vals.ref1 r]
  have hn : H s.heap.objs.size = none := I.hok.fresh (Nat.le_refl _)
  refine call_set_of (xs := ss) (fun A' e => init_list (e.trans (I.ok.hd hc)) hl.isList rv.strs hb) fun s' L => ?_
  obtain ⟨h', tk, ls, rfl, hA, mem, hlen, kp⟩ := L
  exact ⟨.ref s.heap.objs.size, upd H s.heap.objs.size (SetTx X.prog X.w s.heap.objs.size ls), I.laid (t' := tk) kp (Nat.le_refl _) (setTx_new hA), rfl, q _ ls hn hA.nd mem hlen⟩
def signs (x : Str) : List Str := x.cps.toList.map fun c => (⟨#[c]⟩ : Str)
/-- set(x), x a text -/
def rSetT (P : Program) (w : World) : List V → Hp → VK → Prop := fun xs H Q => ∃ (x : Str), xs = [V.str x] ∧ x.length + 1 < scanBound ∧
  ∀ (a : Addr) (ls : List Str), H a = none → ls.Nodup → (∀ k, k ∈ ls ↔ k ∈ signs x) → ls.length ≤ x.length → Q (.ref a) (upd H a (SetTx P w a ls))
theorem cr_setT (hc : X.calm = true) : CallR X (.type "set") (rSetT X.prog X.w) := by
  intro pins s σ H xs us Q I r h
  obtain ⟨x, rfl, hb, q⟩ := h
  obtain ⟨t, rfl⟩ : ∃ t, us = [Value.str x t] := by
    cases r with
    | cons r1 r2 =>
      cases r2
      obtain ⟨t, rfl⟩ := r1
      exact ⟨t, rfl⟩
  have hn : H s.heap.objs.size = none := I.hok.fresh (Nat.le_refl _)
  refine call_set_of (xs := x.cps.toList.map fun c => (⟨#[c]⟩ : Str)) (fun A' e => init_text (e.trans (I.ok.hd hc)) hb) fun s' L => ?_
  obtain ⟨h', tk, ls, rfl, hA, mem, hlen, kp⟩ := L
  rw [List.length_map, Array.length_toList] at hlen
  exact ⟨.ref s.heap.objs.size, upd H s.heap.objs.size (SetTx X.prog X.w s.heap.objs.size ls), I.laid (t' := tk) kp (Nat.le_refl _) (setTx_new hA), rfl, q _ ls hn hA.nd mem hlen⟩
/-- sorted(found) of texts, fewer than 64 -/
def rSortTx (P : Program) (w : World) : List V → Hp → VK → Prop := fun vs H Q => ∃ (a : Addr) (l : List Str), vs = [V.ref a] ∧ H a = some (SetTx P w a l) ∧ l.length < 64 ∧
  ∀ (ys : List Str) (p : Addr), ys.Perm l → sortedS ys = true → H p = none → Q (.ref p) (upd H p (.lst (ys.map V.str)))
theorem cr_sortTx (hc : X.calm = true) : CallR X (.builtin "sorted") (rSortTx X.prog X.w) := by
  intro pins s σ H vs us Q I r h
  obtain ⟨a, l, rfl, ha, h64, q⟩ := h
  have R : At X.prog X.w s.heap a l := (I.hok a _ ha).1
  rw [Vals.ref1 r]
  refine sorted_at R (I.ok.hd hc) h64 fun s' p out c ys k g o hp hg hi pm so => ?_
  have hlen : (ys.map V.str).length ≤ sizeLine := by
    rw [List.length_map, pm.length_eq, sizeLine_eq]
    omega
  have hn : H p = none := I.hok.fresh hp
  have J : Inv X pins σ (upd H p (.lst (ys.map V.str))) { s with heap := s'.heap, gens := s'.gens, drawn := s'.drawn, toks := s'.toks } :=
    I.call (ch := []) (Un.laid k hp hn) (I.hok.laid k hp ⟨hlen, out.toList, c, vals_of_strs hi, hg⟩) (by rw [g]; exact I.bare) (fun _ z => nomatch z)
  have e : s' = { s with heap := s'.heap, gens := s'.gens, drawn := s'.drawn, toks := s'.toks } := by
    cases s'
    cases s
    cases o
    rfl
  rw [e]
  exact ⟨.ref p, _, J, rfl, q ys p pm so hn⟩
end
end TX
namespace DW
open PySem PySem.Spec PyProof.Rows L2
def topS (i : Nat) : Stmt := PySem.Challenge.pw_downwords_k04_common_superwords.main.body.getD i (.Pass ⟨0, 0, 0, 0⟩)
abbrev sFirstPositions : Stmt := topS 6
abbrev sIsSubword : Stmt := topS 7
abbrev sHasProperSubword : Stmt := topS 8
abbrev sInShortlexOrder : Stmt := topS 9
abbrev sMinimalWords : Stmt := topS 10
abbrev sMergedWords : Stmt := topS 11
abbrev sCommonSuperwords : Stmt := topS 12
abbrev sBegin : Stmt := topS 14
abbrev sDraw : Stmt := topS 15
abbrev sPick : Stmt := topS 16
abbrev sAlpha : Stmt := topS 17
abbrev sWord : Stmt := topS 18
abbrev sLIsSubword : Stmt := topS 19
abbrev sLWords : Stmt := topS 20
abbrev sLIsRefused : Stmt := topS 21
abbrev sLMerged : Stmt := topS 22
abbrev sLLongRight : Stmt := topS 23
abbrev sLaw : Stmt := topS 24
end DW
/-! zip(text, text) -/
namespace ZX
open PySem PySem.Spec PyProof.Rows L2
/-- the signs of two texts, side by side, in new pairs -/
def Itx (x y : Str) : It :=
  ⟨fun i _ => i < x.cps.size ∧ i < y.cps.size,
    fun i H v H' => ∃ (T : Addr) (c d : Nat), v = .ref T ∧ H T = none ∧ H' = upd H T (.tup [.str ⟨#[c]⟩, .str ⟨#[d]⟩]) ∧ x.cps[i]? = some c ∧ y.cps[i]? = some d,
    fun i _ => i = min x.cps.size y.cps.size⟩
theorem turn_zipX {P : Program} {w : World} {K : PySem.W.Frag} {elts : List Expr} {kk : Nat} {tpos : Pos} {x y : Str} {t u : Tok} {z TI TO i1 i2 : Addr} (S : ZipSep2 z TI TO i1 i2 [i1] [i2]) :
    Turn P w K (.Tuple elts kk tpos) (Itx x y) [z, TI, TO, i1, i2] z (fun i h => IsZip h z TI TO .none ∧ IsTupOf2 h TI (.ref i1) (.ref i2) ∧ (∃ a b, IsTupOf2 h TO a b) ∧ h.IsStrIter i1 (strIterType x) x t i ∧ h.IsStrIter i2 (strIterType y) y u i) where
  mem := by simp
  obj := fun i h st c hc => by
    obtain ⟨hz, hTI, ⟨a, b, hTO⟩, ⟨o1, e1, _, d1⟩, ⟨o2, e2, _, d2⟩⟩ := st
    have e' : c = z ∨ c = TI ∨ c = TO ∨ c = i1 ∨ c = i2 := by simpa using hc
    rcases e' with q | q | q | q | q
    · rw [q]; exact ⟨_, hz, fun v q => nomatch q⟩
    · rw [q]; exact ⟨_, hTI, fun v q => nomatch q⟩
    · rw [q]; exact ⟨_, hTO, fun v q => nomatch q⟩
    · rw [q]; exact ⟨o1, e1, fun v q => by rw [d1] at q; cases q⟩
    · rw [q]; exact ⟨o2, e2, fun v q => by rw [d2] at q; cases q⟩
  keep := fun i h h' st k => by
    obtain ⟨hz, hTI, ⟨a, b, hTO⟩, ⟨o1, e1, r1⟩, ⟨o2, e2, r2⟩⟩ := st
    exact ⟨k z (by simp) _ hz, k TI (by simp) _ hTI, ⟨a, b, k TO (by simp) _ hTO⟩, ⟨o1, k i1 (by simp) _ e1, r1⟩, ⟨o2, k i2 (by simp) _ e2, r2⟩⟩
  item := by
    intro X hP hw hK hc i pins s σ H E I hf st hg
    subst hP hw hK
    obtain ⟨hz, hTI, ⟨a0, b0, hTO⟩, h1, h2⟩ := st
    have hzl : z < s.heap.objs.size := Heap.lt_size hz
    refine wpAny_pyNext_zipD2_item S (Draws.text (A := X.A.in1) (I.ok.hd hc) i1 x t) (Draws.text (A := X.A.in1) (I.ok.hd hc) i2 y u) hz hTI hTO h1 h2 hg.1 hg.2 fun v1 v2 h' tk p1 p2 z' TO' h1' h2' hT hsz hk => ?_
    obtain ⟨c, tc, hc1, rfl⟩ := p1
    obtain ⟨d, td, hd1, rfl⟩ := p2
    refine ⟨_, rfl, wpAny_letOwnedTupleGo_zip (s := { s with heap := h', toks := tk }) z' fun h'' z'' sb => ?_⟩
    have hT2 : h''.get? s.heap.objs.size = some { cls := .type "tuple", data := .seq #[.str ⟨#[c]⟩ tc, .str ⟨#[d]⟩ td] } := (sb.2 _ (Nat.ne_of_gt hzl)).trans hT
    have new : ObjOk X.prog X.w (upd H s.heap.objs.size (.tup [.str ⟨#[c]⟩, .str ⟨#[d]⟩])) h'' s.heap.objs.size (.tup [.str ⟨#[c]⟩, .str ⟨#[d]⟩]) :=
      ⟨by show 2 ≤ sizeLine; decide, [.str ⟨#[c]⟩ tc, .str ⟨#[d]⟩ td], .cons ⟨_, rfl⟩ (.cons ⟨_, rfl⟩ .nil), ⟨_, hT2, rfl, _, rfl⟩⟩
    have I1 : Inv X pins σ (upd H s.heap.objs.size (.tup [.str ⟨#[c]⟩, .str ⟨#[d]⟩])) { s with heap := h'', toks := tk } :=
      I.turnedNew (t' := tk) (ch := [z, TI, TO, i1, i2]) (fun c o hb q => (sb.2 c (fun q' => hb (by simp [q']))).trans (hk c o (fun q' => hb (by simp [q'])) (fun q' => hb (by simp [q'])) (fun q' => hb (by simp [q'])) (fun q' => hb (by simp [q'])) q)) hf (Nat.le_refl _) new
    have st' : ∀ {a : Addr} {ty : String} {v : Str} {tv : Tok} {n : Nat}, a ≠ z → h'.IsStrIter a ty v tv n → h''.IsStrIter a ty v tv n := fun n ⟨o, e, r⟩ => ⟨o, (sb.2 _ n).trans e, r⟩
    refine ⟨.ref s.heap.objs.size, _, I1, rfl, ⟨_, c, d, rfl, I.hok.fresh (Nat.le_refl _), rfl, hc1, hd1⟩, ⟨z'', ?_, ⟨.str ⟨#[c]⟩ tc, .str ⟨#[d]⟩ td, ?_⟩, st' S.zi1.symm h1', st' S.zi2.symm h2'⟩, fun b hb => ?_⟩
    · exact (sb.2 _ S.TIz).trans (hk _ _ S.TIz S.TITO S.TIi1 S.TIi2 hTI)
    · exact (sb.2 _ S.TOz).trans TO'
    · have hlt : b < s.heap.objs.size := by
        have e' : b = z ∨ b = TI ∨ b = TO ∨ b = i1 ∨ b = i2 := by simpa using hb
        rcases e' with q | q | q | q | q
        · rw [q]; exact hzl
        · rw [q]; exact Heap.lt_size hTI
        · rw [q]; exact Heap.lt_size hTO
        · rw [q]; obtain ⟨_, e1, _⟩ := h1; exact Heap.lt_size e1
        · rw [q]; obtain ⟨_, e2, _⟩ := h2; exact Heap.lt_size e2
      rw [upd_ne (Nat.ne_of_lt hlt)]
      exact (hf b hb).1
  done := by
    intro X hP hw hK hc i pins s σ H E I hf st hg
    subst hP hw hK
    obtain ⟨hz, hTI, ⟨a0, b0, hTO⟩, h1, h2⟩ := st
    have hg' : i = min x.cps.size y.cps.size := hg
    exact wpAny_pyNext_zipD2_end S (Draws.text (A := X.A.in1) (I.ok.hd hc) i1 x t) (Draws.text (A := X.A.in1) (I.ok.hd hc) i2 y u) hz hTI hTO h1 h2 (by omega) (by omega) (by omega) fun h' tk hk => ⟨rfl, I.turnedL (t' := tk) (ch := [z, TI, TO, i1, i2]) (fun c o hb q =>
      hk c o (fun q' => hb (by simp [q'])) (fun q' => hb (by simp [q'])) (fun q' => hb (by simp [q'])) (fun q' => hb (by simp [q'])) q) hf⟩
  self := fun A i s Q E st h => wpAny_pyIter_zip st.1 h
theorem sep_new (n : Addr) : ZipSep2 (n + 4) (n + 2) (n + 3) n (n + 1) [n] [n + 1] := by
  constructor <;> simp <;> omega
def iZipX (ta : TA) : TI := fun σ H R => ta σ H fun vs H1 => ∃ x y : Str, vs = [.str x, .str y] ∧ R (Itx x y) H1
theorem pi_zipX {X : Cx} {e e2 : Expr} {ta : TA} {p pos tpos : Pos} {elts : List Expr} {kk : Nat} (hg : Gl X "zip") (hm : X.mg "zip" = none) (ha : PA X [e, e2] ta)
    (hs : starEach [e, e2] X.env = (false, eval e X.env) :: starEach [e2] X.env := by rfl) (hpl : (backTo pos (starEach [e2] X.env)).any (·.1) = false := by rfl) :
    PI X (.Tuple elts kk tpos) (.Call (.Name "zip" p) [e, e2] [] pos) (iZipX ta) := by
  refine ⟨fun pins s σ H R I h => ?_⟩
  refine Call_ (ld_blt I hg hm PyProof.Rows.boot_zip (PyProof.Rows.callWith_type1 (thn (ha.run pos pins s σ H _ I h) fun us s1 ⟨vs, H1, I1, r1, q1⟩ => ?_) hs hpl))
  obtain ⟨x, y, ex, q⟩ := q1
  subst ex
  cases r1 with
  | cons r rr =>
    cases rr with
    | cons r' rr =>
      cases rr
      obtain ⟨t, rfl⟩ := r
      obtain ⟨u, rfl⟩ := r'
      refine zip_begins2 (begins_text x t) (begins_text y u) trivial trivial fun h' hz hTI hTO h1 h2 hsz hk => wpAny_pyIter_zip hz ?_
      have I2 : Inv X pins σ H1 { s1 with heap := h' } := I1.kept (t' := s1.toks) hk
      refine ⟨s1.heap.objs.size + 4, [s1.heap.objs.size + 4, s1.heap.objs.size + 2, s1.heap.objs.size + 3, s1.heap.objs.size, s1.heap.objs.size + 1], _, _, H1, rfl, I2, turn_zipX (sep_new s1.heap.objs.size), ⟨hz, hTI, ⟨_, _, hTO⟩, ⟨_, h1, rfl, rfl⟩, ⟨_, h2, rfl, rfl⟩⟩, fun c hcm => ?_, q⟩
      have e' : c = s1.heap.objs.size + 4 ∨ c = s1.heap.objs.size + 2 ∨ c = s1.heap.objs.size + 3 ∨ c = s1.heap.objs.size ∨ c = s1.heap.objs.size + 1 := by simpa using hcm
      have hle : s1.heap.objs.size ≤ c := by
        rcases e' with z | z | z | z | z
        · rw [z]; exact Nat.le_add_right _ _
        · rw [z]; exact Nat.le_add_right _ _
        · rw [z]; exact Nat.le_add_right _ _
        · rw [z]; exact Nat.le_refl _
        · rw [z]; exact Nat.le_add_right _ _
      exact I1.fpOk hle (I1.hok.fresh hle)
theorem walk_zipX {x y : Str} : Walk (Itx x y) (min x.cps.size y.cps.size) (fun _ => True) (Itx x y).yld :=
  ⟨fun i _ hi _ => ⟨by omega, by omega⟩, fun _ _ => rfl, fun _ _ _ _ _ _ y => y⟩
end ZX
/-! list(text); text[::-1] as a text of the same length -/
namespace R1
open PySem PySem.Spec PyProof.Rows L2
theorem texts_in : ∀ l : List Value, (∀ v ∈ l, ∃ z t, v = .str z t) → ∃ ss : List Str, Vals (ss.map V.str) l
  | [], _ => ⟨[], .nil⟩
  | v :: l, h => by
    obtain ⟨ss, r⟩ := texts_in l fun u hu => h u (List.mem_cons_of_mem _ hu)
    obtain ⟨z, t, rfl⟩ := h v List.mem_cons_self
    exact ⟨z :: ss, .cons ⟨t, rfl⟩ r⟩
section
variable {X : Cx}
theorem cr_listT (hc : X.calm = true) : CallR X (.type "list") (fun xs H Q => ∃ x : Str, xs = [.str x] ∧ x.length ≤ sizeLine ∧ ∀ p (ss : List Str), H p = none → Q (.ref p) (upd H p (.lst (ss.map V.str)))) := by
  intro pins s σ H xs us Q I r h
  obtain ⟨x, rfl, hb, q⟩ := h
  obtain ⟨t, rfl⟩ : ∃ t, us = [Value.str x t] := by
    cases r with
    | cons r1 r2 =>
      cases r2
      obtain ⟨t, rfl⟩ := r1
      exact ⟨t, rfl⟩
  refine call_list_str (I.ok.hd hc) x t (hn := hb) fun h' tk acc c hk hS hacc => ?_
  obtain ⟨ss, rv⟩ := texts_in acc.toList fun v hv => by
    obtain ⟨j, hj⟩ := List.getElem?_of_mem hv
    obtain ⟨c, u, _, e⟩ := hacc.2 j v (by simpa using hj)
    exact ⟨_, u, e⟩
  have hl : (ss.map V.str).length ≤ sizeLine := by
    rw [rv.length, Array.length_toList, hacc.1]
    exact hb
  exact ⟨.ref s.heap.objs.size, upd H s.heap.objs.size (.lst (ss.map V.str)), I.laid (t' := tk) hk (Nat.le_refl _) ⟨hl, acc.toList, c, rv, hS⟩, rfl, q _ ss (I.hok.fresh (Nat.le_refl _))⟩
def tRevT (te : TE) : TE := fun σ H Q => te σ H fun x H1 => ∃ z : Str, x = .str z ∧ z.length ≤ sizeLine ∧ ∀ y : Str, y.length ≤ z.length → (∀ c ∈ y.cps.toList, c ∈ z.cps.toList) → Q (.str y) H1
theorem pe_revT {e : Expr} {te : TE} {k : Nat} {p1 p2 p3 pos : Pos} (he : PE X e te) : PE X (.Subscript e (.Slice none none (some (.UnaryOp .USub (.Constant (.int 1) k p1) p2)) p3) pos) (tRevT te) := by
  refine ⟨fun pins s σ H Q I h => ?_⟩
  refine Subscript_ (thn (he.run pins s σ H _ I h) fun v s1 ⟨x, H1, I1, r1, q1⟩ => ?_)
  obtain ⟨z, ex, hz, q⟩ := q1
  subst ex
  obtain ⟨t, rfl⟩ := r1
  have hst : PO X (some (.UnaryOp .USub (.Constant (.int 1) k p1) p2)) (tPart (tUn (rU fun i => .int (-i)) (tC (.int 1)))) := po_some (pe_un un_neg pe_int)
  refine wpAny_Slice (thn (po_none.run pins s1 σ H1 (fun o H2 => o = none ∧ H2 = H1) I1 ⟨rfl, rfl⟩) fun vl s2 ⟨l, H2, I2, pl, el, e2⟩ => ?_)
  subst el e2
  refine thn (po_none.run pins s2 σ H2 (fun o H3 => o = none ∧ H3 = H2) I2 ⟨rfl, rfl⟩) fun vu s3 ⟨u, H3, I3, pu, eu, e3⟩ => ?_
  subst eu e3
  refine thn (hst.run pins s3 σ H3 (fun o H4 => o = some (-1) ∧ H4 = H3) I3 ⟨1, rfl, -1, rfl, rfl, rfl⟩) fun vs s4 ⟨o, H4, I4, ps, eo, e4⟩ => ?_
  subst eo e4
  obtain ⟨l1, rfl, el⟩ := IsPart.raw pl
  obtain ⟨u1, rfl, eu⟩ := IsPart.raw pu
  obtain ⟨st1, rfl, es⟩ := IsPart.raw ps
  have I5 : Inv X pins σ H4 { s4 with heap := s4.heap.push { cls := .type "slice", data := .fields #[partValue l1, partValue u1, partValue st1] } } := I4.kept (t' := s4.toks) fun b ob q => Heap.get?_push_of_some _ q
  show wpAny (model X.prog X.w) X.A (subscriptTail e (.Slice none none (some (.UnaryOp .USub (.Constant (.int 1) k p1) p2)) p3) (.str z t) (.ref s4.heap.objs.size)) (EP X pins σ Q) X.xe { s4 with heap := s4.heap.push { cls := .type "slice", data := .fields #[partValue l1, partValue u1, partValue st1] } }
  refine tail_any (ops := [.str z t, .ref s4.heap.objs.size]) (typeIs_str _ _ _) (F.slot_str_getitem.lookup) ?_ (by with_unfolding_all rfl)
  refine wpAny_getItem_str_slice (l := l1) (u := u1) (st := st1) ⟨_, Heap.get?_push_size _ rfl, rfl, rfl⟩ (by rw [es]; rfl) ?_
  have e0 : sliceMade z t l1 u1 st1 = .str ⟨(((List.range z.length).map fun k => z.length - 1 - k).filterMap (z.cps[·]?)).toArray⟩ := by
    unfold sliceMade slicePicked
    rw [el, eu, es]
    show (if ((-1 : Int) == 1 && _) = true then _ else _) = _
    rw [if_neg (by simp)]
    show Made.str ⟨((sliceRange ((z.length : Int) - 1) (-1) (-1)).filterMap (z.cps[·]?)).toArray⟩ = _
    rw [PySem.W.krv_sliceRange]
  rw [e0]
  have hl : (⟨(((List.range z.length).map fun k => z.length - 1 - k).filterMap (z.cps[·]?)).toArray⟩ : Str).length ≤ z.length := by
    show (((List.range z.length).map fun k => z.length - 1 - k).filterMap (z.cps[·]?)).toArray.size ≤ _
    rw [List.size_toArray]
    refine Nat.le_trans (List.length_filterMap_le _ _) ?_
    rw [List.length_map, List.length_range]
    exact Nat.le_refl _
  have hm : ∀ c ∈ (⟨(((List.range z.length).map fun k => z.length - 1 - k).filterMap (z.cps[·]?)).toArray⟩ : Str).cps.toList, c ∈ z.cps.toList := fun c hc => by
    have hc' : c ∈ ((List.range z.length).map fun k => z.length - 1 - k).filterMap (z.cps[·]?) := by simpa using hc
    obtain ⟨i, _, hi⟩ := List.mem_filterMap.mp hc'
    rw [← Array.getElem?_toList] at hi
    exact List.mem_of_getElem? hi
  exact ⟨Nat.le_trans hl hz, .str _, H4, I5.tok _, ⟨_, rfl⟩, q _ hl hm⟩
end
end R1
/-! text[::-1] -/
namespace R1
open PySem PySem.Spec PyProof.Rows L2
section
variable {X : Cx}
def tRevS (te : TE) : TE := fun σ H Q => te σ H fun x H1 => ∃ z : Str, x = .str z ∧ z.length ≤ sizeLine ∧ Q (.str ⟨z.cps.toList.reverse.toArray⟩) H1
theorem pe_revS {e : Expr} {te : TE} {k : Nat} {p1 p2 p3 pos : Pos} (he : PE X e te) : PE X (.Subscript e (.Slice none none (some (.UnaryOp .USub (.Constant (.int 1) k p1) p2)) p3) pos) (tRevS te) := by
  refine ⟨fun pins s σ H Q I h => ?_⟩
  refine Subscript_ (thn (he.run pins s σ H _ I h) fun v s1 ⟨x, H1, I1, r1, q1⟩ => ?_)
  obtain ⟨z, ex, hz, q⟩ := q1
  subst ex
  obtain ⟨t, rfl⟩ := r1
  have hst : PO X (some (.UnaryOp .USub (.Constant (.int 1) k p1) p2)) (tPart (tUn (rU fun i => .int (-i)) (tC (.int 1)))) := po_some (pe_un un_neg pe_int)
  refine wpAny_Slice (thn (po_none.run pins s1 σ H1 (fun o H2 => o = none ∧ H2 = H1) I1 ⟨rfl, rfl⟩) fun vl s2 ⟨l, H2, I2, pl, el, e2⟩ => ?_)
  subst el e2
  refine thn (po_none.run pins s2 σ H2 (fun o H3 => o = none ∧ H3 = H2) I2 ⟨rfl, rfl⟩) fun vu s3 ⟨u, H3, I3, pu, eu, e3⟩ => ?_
  subst eu e3
  refine thn (hst.run pins s3 σ H3 (fun o H4 => o = some (-1) ∧ H4 = H3) I3 ⟨1, rfl, -1, rfl, rfl, rfl⟩) fun vs s4 ⟨o, H4, I4, ps, eo, e4⟩ => ?_
  subst eo e4
  obtain ⟨l1, rfl, el⟩ := IsPart.raw pl
  obtain ⟨u1, rfl, eu⟩ := IsPart.raw pu
  obtain ⟨st1, rfl, es⟩ := IsPart.raw ps
  have I5 : Inv X pins σ H4 { s4 with heap := s4.heap.push { cls := .type "slice", data := .fields #[partValue l1, partValue u1, partValue st1] } } := I4.kept (t' := s4.toks) fun b ob q => Heap.get?_push_of_some _ q
  show wpAny (model X.prog X.w) X.A (subscriptTail e (.Slice none none (some (.UnaryOp .USub (.Constant (.int 1) k p1) p2)) p3) (.str z t) (.ref s4.heap.objs.size)) (EP X pins σ Q) X.xe { s4 with heap := s4.heap.push { cls := .type "slice", data := .fields #[partValue l1, partValue u1, partValue st1] } }
  refine tail_any (ops := [.str z t, .ref s4.heap.objs.size]) (typeIs_str _ _ _) (F.slot_str_getitem.lookup) ?_ (by with_unfolding_all rfl)
  refine wpAny_getItem_str_slice (l := l1) (u := u1) (st := st1) ⟨_, Heap.get?_push_size _ rfl, rfl, rfl⟩ (by rw [es]; rfl) ?_
  have e0 : sliceMade z t l1 u1 st1 = .str ⟨(((List.range z.length).map fun k => z.length - 1 - k).filterMap (z.cps[·]?)).toArray⟩ := by
    unfold sliceMade slicePicked
    rw [el, eu, es]
    show (if ((-1 : Int) == 1 && _) = true then _ else _) = _
    rw [if_neg (by simp)]
    show Made.str ⟨((sliceRange ((z.length : Int) - 1) (-1) (-1)).filterMap (z.cps[·]?)).toArray⟩ = _
    rw [PySem.W.krv_sliceRange]
  rw [e0]
  have er : (⟨(((List.range z.length).map fun k => z.length - 1 - k).filterMap (z.cps[·]?)).toArray⟩ : Str) = ⟨z.cps.toList.reverse.toArray⟩ := by
    have e1 : ((List.range z.length).map fun k => z.length - 1 - k).filterMap (z.cps[·]?) = z.cps.toList.reverse := by
      rw [PySem.W.krv_range, List.filterMap_reverse]
      show ((List.range z.cps.size).filterMap (z.cps[·]?)).reverse = _
      rw [PySem.W.krv_all]
    rw [e1]
  rw [er]
  have hl : (⟨z.cps.toList.reverse.toArray⟩ : Str).length ≤ z.length := by
    show z.cps.toList.reverse.toArray.size ≤ z.cps.size
    rw [List.size_toArray, List.length_reverse, Array.length_toList]
    exact Nat.le_refl _
  exact ⟨Nat.le_trans hl hz, .str _, H4, I5.tok _, ⟨_, rfl⟩, q⟩
end
end R1
/-! two fors in a comprehension, by walks -/
namespace L2
open PySem PySem.Spec PyProof.Rows
set_option autoImplicit false
/-- the second for -/
def Inn (J1 : It) (g1 : TG) (tt1 : TT) (te : TE) (vs1 : List Nat) (D : Addr) (σ2 : St) (H4 : Hp) (Nx : Hp → Prop) : Prop :=
  ∃ W1 : Nat → Nat → Hp → Prop, (∃ m, W1 0 m H4) ∧ ∀ j k H, W1 j k H →
      (J1.stop j H ∧ Nx H) ∨ (J1.go j H ∧ ∃ Nx1 : Hp → Prop, (∀ H', Nx1 H' → ∃ k', k' < k ∧ W1 (j + 1) k' H') ∧ ∀ x H', J1.yld j H x H' → g1 x (wipe σ2 vs1) H' fun σ3 H5 => wipe σ3 vs1 = wipe σ2 vs1 ∧ tt1 σ3 H5 fun b H6 =>
        if b = true then te σ3 H6 fun y H7 => ∃ acc, H7 D = some (.lst acc) ∧ acc.length < sizeLine ∧ Nx1 (upd H7 D (.lst (acc ++ [y]))) else Nx1 H6)
section
variable {J J1 : It} {n n1 : Nat} {G G1 : Hp → Prop} {Y Y1 : Nat → Hp → V → Hp → Prop}
theorem inn_it (w : Walk J1 n1 G1 Y1) {g1 : TG} {tt1 : TT} {te : TE} {vs1 : List Nat} {D : Addr} {σ2 : St} {H4 : Hp} {Nx : Hp → Prop} (Pv : Nat → Hp → Prop) (h0 : Pv 0 H4) (hG : ∀ i H, i ≤ n1 → Pv i H → G1 H)
    (hs : ∀ j x H H', j < n1 → Pv j H → Y1 j H x H' → g1 x (wipe σ2 vs1) H' fun σ3 H5 => wipe σ3 vs1 = wipe σ2 vs1 ∧ tt1 σ3 H5 fun b H6 =>
        if b = true then te σ3 H6 fun y H7 => ∃ acc, H7 D = some (.lst acc) ∧ acc.length < sizeLine ∧ Pv (j + 1) (upd H7 D (.lst (acc ++ [y]))) else Pv (j + 1) H6)
    (hd : ∀ H, Pv n1 H → Nx H) : Inn J1 g1 tt1 te vs1 D σ2 H4 Nx := by
  refine ⟨fun i m H => m = n1 - i ∧ i ≤ n1 ∧ Pv i H, ⟨n1, by simp, Nat.zero_le _, h0⟩, ?_⟩
  rintro i m H ⟨rfl, hi, p⟩
  have q := hG i H hi p
  by_cases hlt : i < n1
  · refine .inr ⟨w.goes i H hlt q, Pv (i + 1), fun H' p' => ⟨n1 - (i + 1), by omega, rfl, hlt, p'⟩, fun x H' y => hs i x H H' hlt p (w.yields i H x H' hlt q y)⟩
  · have e : i = n1 := by omega
    subst e
    exact .inl ⟨w.stops H q, hd H p⟩
theorem lc2_it (w : Walk J n G Y) {g : TG} {tt : TT} {wi1 : TI} {g1 : TG} {tt1 : TT} {te : TE} {vs vs1 : List Nat} {σ : St} {H1 : Hp} {D : Addr} {Qd : Hp → Prop} (Pv : Nat → Hp → Prop) (h0 : Pv 0 (upd H1 D (.lst []))) (hG : ∀ i H, i ≤ n → Pv i H → G H)
    (hs : ∀ i x H H', i < n → Pv i H → Y i H x H' → g x (wipe σ vs) H' fun σ2 H2 => wipe σ2 vs = wipe σ vs ∧ tt σ2 H2 fun b H3 =>
      if b = true then wi1 σ2 H3 fun J1 H4 => Inn J1 g1 tt1 te vs1 D σ2 H4 (Pv (i + 1)) else Pv (i + 1) H3) (hd : ∀ H, Pv n H → Qd H) :
    ∃ W : Nat → Nat → Hp → Prop, (∃ m, W 0 m (upd H1 D (.lst []))) ∧ ∀ i m H, W i m H →
  (J.stop i H ∧ Qd H) ∨ (J.go i H ∧ ∃ Nx : Hp → Prop, (∀ H', Nx H' → ∃ m', m' < m ∧ W (i + 1) m' H') ∧ ∀ x H', J.yld i H x H' → g x (wipe σ vs) H' fun σ2 H2 => wipe σ2 vs = wipe σ vs ∧ tt σ2 H2 fun b H3 =>
    if b = true then wi1 σ2 H3 fun J1 H4 => ∃ W1 : Nat → Nat → Hp → Prop, (∃ m, W1 0 m H4) ∧ ∀ j k H, W1 j k H →
      (J1.stop j H ∧ Nx H) ∨ (J1.go j H ∧ ∃ Nx1 : Hp → Prop, (∀ H', Nx1 H' → ∃ k', k' < k ∧ W1 (j + 1) k' H') ∧ ∀ x H', J1.yld j H x H' → g1 x (wipe σ2 vs1) H' fun σ3 H5 => wipe σ3 vs1 = wipe σ2 vs1 ∧ tt1 σ3 H5 fun b H6 =>
        if b = true then te σ3 H6 fun y H7 => ∃ acc, H7 D = some (.lst acc) ∧ acc.length < sizeLine ∧ Nx1 (upd H7 D (.lst (acc ++ [y]))) else Nx1 H6)
    else Nx H3) := by
  refine ⟨fun i m H => m = n - i ∧ i ≤ n ∧ Pv i H, ⟨n, by simp, Nat.zero_le _, h0⟩, ?_⟩
  rintro i m H ⟨rfl, hi, p⟩
  have q := hG i H hi p
  by_cases hlt : i < n
  · refine .inr ⟨w.goes i H hlt q, Pv (i + 1), fun H' p' => ⟨n - (i + 1), by omega, rfl, hlt, p'⟩, fun x H' y => hs i x H H' hlt p (w.yields i H x H' hlt q y)⟩
  · have e : i = n := by omega
    subst e
    exact .inl ⟨w.stops H q, hd H p⟩
end
end L2
/-! an own error whose __init__ begins with super().__init__(..) -/
namespace EX
open PySem PySem.Spec PyProof.Rows L2 NdefX
set_option autoImplicit false
/-- what the written part says of the class, its __init__ and the cell of its class -/
structure SupC (P : Program) (K : PySem.W.Frag) (C fI cc : Addr) (F : NF) : Prop where
  oex : OexC K C
  cl : F.cl = [(("__class__" : Str), cc)]
  cd : PySem.W.codeIn K (.ref F.c) F.qual = true
  code : ∃ (ccl : Value) (cdd : Option Addr) (vs : Array Value) (ccs : Array (Option Value)) (file : Str) (tf : Tok), K.lookup F.c = some (⟨ccl, cdd, .fields vs, ccs⟩ : Obj) ∧ vs[2]? = some (Value.str file tf) ∧ ((P.main.file : Str) == file) = true
  cell : ∃ (cl : Value) (cld : Option Addr) (csl : Array (Option Value)), K.lookup cc = some (⟨cl, cld, .cell (some (.ref C)), csl⟩ : Obj)
  top : (P.main.scope.names.lookup ("super" : Str)).isSome = false
  opq : PySem.W.nsIn K cStatics "thirdparty.any" = some none
  ini : PySem.W.ks_superIn K C C "__init__" = some (some (.builtin "ValueError.__init__"))
  ve : PySem.W.subIn K (.ref C) (.type "ValueError") = some true
  own : PySem.W.mroIn K C (.ref C) = some true
section
variable {X : Cx} {pins : List (Addr × Obj)} {σ : L2.St} {H : Hp} {s : Shared}
/-- the bound __init__ is called -/
theorem call_mw {A : Around} {E : Value → Shared → Prop} {a C u : Addr} {us : List Value} {Q : Value → Shared → Prop} (T : OexC X.K C) (I : Inv X pins σ H s) (e : H a = some (exo a C none)) (hu : s.heap.get? u = some (PySem.W.kxs_mw "ValueError.__init__" a)) (hl : us.length ≤ sizeLine) (h : ∀ s', Inv X pins σ H s' → Q .none s') :
    wpAny (model X.prog X.w) A (call (.ref u) us) Q E s := by
  obtain ⟨nm, q, N, bs, bm, sn, sub, ab, col, dd, k0, k1, k2, k3, k5, hC, hbm⟩ := T.cls
  have hC' := I.kIn _ _ hC
  obtain ⟨t1, ho⟩ := exo_at I.hok e
  obtain ⟨hp, g, d, t, os⟩ := s
  refine wpAny_call (codeAny_of_tree ?_)
  show wpAny _ A.in1 (callAny (.ref u) ⟨us, []⟩) _ _ _
  simp only [callAny]
  refine wpAny_bind (wpAny_load hu ?_)
  simp only [PySem.W.kxs_mw, show (Value.type "method-wrapper" == Value.type "method" || Value.type "method-wrapper" == Value.type "builtin_function_or_method" || Value.type "method-wrapper" == Value.type "method-wrapper") = true by decide, if_true]
  refine PySem.W.KFB.if_so (by decide) ?_
  refine wpAny_bind (PySem.W.check_bound_init F.excBase_ValueError.toExcCallFacts hC' ho rfl ?_)
  refine wpAny_bind (wpAny_pure (wpAny_pure ?_))
  refine ⟨plainId_quiet F.excBase_ValueError.init.plain _, codeAny_builtin F.excBase_ValueError.initEntry ?_⟩
  refine PySem.W.exc_init_tree (cls := .ref C) (t0 := t1) (dv := none) (c2 := .none) (c3 := .none) (b4 := .bool false) ho hl fun h' k hx _ => ?_
  have J := I.write (t' := t) (x := a) (e := a) (o := exo a C none) (by rw [e]; exact True.intro) (.inl rfl) k ⟨_, hx⟩ (exo_ok hx)
  have eu : upd H a (exo a C none) = H := by
    funext b
    by_cases hb : b = a
    · rw [hb, upd_same, e]
    · rw [upd_ne hb]
  rw [eu] at J
  exact h _ J
/-- THE RULE: an __init__ of an own error, its first statement super().__init__(msg) -/
theorem sup_ok {CX : CXT} {P : Program} {w : World} {K : PySem.W.Frag} {mg : Str → Option Value} {base : Heap} {k : Nat} {C fI cc : Addr} {F : NF} {N : List Str} {fl : Str} {msg : Expr} {rest : List Stmt} {p0 p1 p2 p3 p4 : Pos} {oc doc pm ctv : Value} {od : Option Addr} {osl : Array (Option Value)} {ar : Arg} {sp : Sp} {pl : Addr → Sem Bool}
    (T : SupC P K C fI cc F) (lk : K.lookup fI = some ⟨oc, od, .func (F.fd doc pm ctv), osl⟩) (hm : mg "super" = none) (S : NScope N ["self", fl] ["__class__"] F.scope)
    (hbody : F.body = .Expr (.Call (.Attribute (.Call (.Name "super" p0) [] [] p1) "__init__" p2) [msg] [] p3) p4 :: rest)
    (hpar : (F.params.posonlyargs ++ F.params.args).head? = some ar) (har : ar.arg = "self") (hks : F.scope.names.lookup ("super" : Str) = some .globalImplicit)
    (len : ∀ vs H Q E, sp vs H Q E → vs.length = 2)
    (h : ∀ (A : Around) (outer : List Env) (s : Shared) (H : Hp) (vs : List V) (Q : VK) (E : XK), Room k (A.deeper (envF F fI s.heap.objs.size)) → sp vs H Q E →
      ∃ (a : Addr) (y : V) (tm : TE) (t2 : TS), vs = [.ref a, y] ∧ H a = some (exo a C none) ∧ PE (ncx CX P w K mg base N F fI A outer s H E) msg tm ∧ PSs (ncx CX P w K mg base N F fI A outer s H E) rest t2 ∧
        tm (startF N vs [none]) H fun v H1 => [v].length = 1 ∧ H1 a = some (exo a C none) ∧ t2 { nx := fun _ H' => Q .non H', rt := Q } (startF N vs [none]) H1)
    (he : ∀ L : Addr, eval (.Call (.Attribute (.Call (.Name "super" p0) [] [] p1) "__init__" p2) [msg] [] p3) (envF F fI L) = (do
      let ov ← attributeBase (.Call (.Name "super" p0) [] [] p1) "__init__" (envF F fI L) (eval (.Call (.Name "super" p0) [] [] p1) (envF F fI L))
      standAt p2.atName
      let (f, first) ← holding [ov] (getMethod ov "__init__" (pl L))
      callWith p3 f first (backTo p3 (starEach [msg] (envF F fI L))) []))
    (hst : ∀ L : Addr, starEach [msg] (envF F fI L) = (false, eval msg (envF F fI L)) :: starEach [] (envF F fI L))
    (hsw : ∀ L : Addr, swapsWith (.Call (.Attribute (.Call (.Name "super" p0) [] [] p1) "__init__" p2) [msg] [] p3) none p4.line (envF F fI L) = pure false) :
    FnOk P w K mg base CX (k + 1) fI (F.fd doc pm ctv) ["self", fl] sp := by
  refine ⟨len, fun A outer s H args us vs Q E hr e0 hb r hsp => ?_⟩
  have hl := len _ _ _ _ hsp
  have KX : K.In s.heap := e0.mod.kin.keeps fun b o e => (e0.bs b o e).1
  have lim : s.heap.NoLimit := e0.mod.nolimit.keeps fun b o e => (e0.bs b o e).1
  obtain ⟨ccl, cdd, vsC, ccs, file, tf, hcode, hvs, hfile⟩ := T.code
  obtain ⟨cl1, cld, csl, hcell⟩ := T.cell
  have hcl : F.cl.lookup ("__class__" : Str) = some cc := by rw [T.cl]; rfl
  have hclA : ∀ y c, F.cl.lookup y = some c → y = ("__class__" : Str) ∧ c = cc := fun y c e => by
    rw [T.cl] at e
    by_cases hy : y = ("__class__" : Str)
    · subst hy
      exact ⟨rfl, (Option.some.inj e).symm⟩
    · have hb : (y == ("__class__" : Str)) = false := beq_false_of_ne hy
      simp only [List.lookup, hb] at e
      cases e
  have CA : CellsAt F.cl ["__class__"] [none] s.heap H := {
    len := rfl
    all := fun y c e => by
      obtain ⟨_, rfl⟩ := hclA y c e
      have hbk := e0.mod.kin _ _ hcell
      exact ⟨(e0.bs _ _ hbk).2, _, _, (e0.bs _ _ hbk).1, rfl⟩
    inj := fun x y c e1 e2 => (hclA x c e1).1.trans (hclA y c e2).1.symm
    has := fun i y e => by
      cases i with
      | zero =>
        have ey : y = ("__class__" : Str) := (Option.some.inj e).symm
        subst ey
        exact ⟨cc, hcl, fun v ev => by cases ev⟩
      | succ i => cases e }
  refine codeAny_call_function hr.depth (KX _ _ lk) rfl S.co S.gen rfl (PySem.W.codeRec_of KX T.cd) (hb _ _ _ _ ?_)
  refine wpAny_newFunctionEnv S.nocell (fun ⟨n, _⟩ hy => S.par n (List.of_mem_zip hy).1) (fun h₁ hns hsb => ⟨lim.fresh _ hsb, ?_⟩) S.kind
  show codeAny _ _ (.func F.body (envF F fI s.heap.objs.size)) _ _
  refine ks_codeAny_funcAt ?_
  have kp : ∀ b o, s.heap.get? b = some o → h₁.get? b = some o := fun b o e => hsb.extBut b o (Nat.ne_of_lt (Heap.lt_size e)) (Heap.get?_push_of_some _ e)
  obtain ⟨a, y, tm, t2, ev, ha, hm1, h2, hq⟩ := h A outer s H vs Q E (hr.deeper _) hsp
  have I : Inv (ncx CX P w K mg base N F fI A outer s H E) [] (startF N vs [none]) H { s with heap := h₁, toks := s.toks + (([("self" : Str), fl] : List Str).zip us).length } := inv_startN S hr.hd e0 hl r CA hns kp
  generalize hs1 : ({ s with heap := h₁, toks := s.toks + (([("self" : Str), fl] : List Str).zip us).length } : Shared) = s1 at I ⊢
  have KX1 : K.In s1.heap := I.kIn
  obtain ⟨nm, q, NN, bs, bm, sn, sub, ab, col, dd, k0, k1, k2, k3, k5, hC, hbm⟩ := T.oex.cls
  have hC1 := KX1 _ _ hC
  obtain ⟨t1, ho⟩ := exo_at I.hok ha
  have hne : a ≠ C := fun e => by
    rw [e, hC1] at ho
    cases ho
  rw [show execs F.body (envF F fI s.heap.objs.size) = execs (.Expr (.Call (.Attribute (.Call (.Name "super" p0) [] [] p1) "__init__" p2) [msg] [] p3) p4 :: rest) (envF F fI s.heap.objs.size) by rw [hbody]]
  refine ks_wpAt_execs_cons (ks_wpAt_Expr_any (ks_wpAt_MethodCall (pl := pl s.heap.objs.size) (ks_wpAt_super_base (env := envF F fI s.heap.objs.size) hks (S.frk "__class__" (List.mem_singleton.mpr rfl)) (by decide) rfl (KX1 _ _ lk) rfl hpar rfl (KX1 _ _ hcode) rfl hvs hfile T.top ?_) (he _)) I.quiet (hsw _))
  obtain ⟨mb, hb1, hb2⟩ := I.mod.blt
  refine PySem.W.ks_loadName_global S.kind hks (PySem.Calls.loadGlobal_builtin (I.mod.glob.keeps I.bk) hm (hb1.keeps I.bk) ((hb2 "super" (by decide)).trans (by decide +kernel : bootBuiltins "super" = some (.type "super"))) ⟨rfl, ?_⟩)
  refine wpAny_loadName_free S.kind (S.frk "__class__" (List.mem_singleton.mpr rfl)) hcl ⟨_, KX1 _ _ hcell, rfl⟩ ?_
  rw [har]
  have hself : F.scope.names.lookup ("self" : Str) = some .local := S.par "self" (List.mem_cons_self ..)
  obtain ⟨m, hnsM, hsl⟩ := I.loc
  have hN0 : N[(0 : Nat)]? = some ("self" : Str) := by
    have e := S.pre
    cases N with
    | nil => cases e
    | cons n N =>
      have e2 : n :: N.take 2 = ("self" : Str) :: [fl, "__class__"] := e
      rw [List.cons.injEq] at e2
      rw [e2.1]
      rfl
  have hms : m ("self" : Str) = some (.ref a) := by
    obtain ⟨u, ru, lu⟩ := hsl 0 "self" (.ref a) hN0 (by rw [ev]; rfl) (.inl hself)
    obtain rfl : u = Value.ref a := ru
    rcases lu with lu | ⟨lu, _⟩
    · exact lu.2
    · rw [show (ncx CX P w K mg base N F fI A outer s H E).env.kindOf "self" = some .local from hself] at lu
      rcases lu with z | z <;> cases z
  refine wpAny_loadName_local S.kind hself hnsM hms ?_
  obtain ⟨hp1, g1, d1, tk1, os1⟩ := s1
  refine ks_wpAny_isType_cls hC1 rfl ⟨rfl, ?_⟩
  refine ks_wpAny_call_super hC1 rfl ho rfl (fun c e => by cases e) (PySem.W.looks_mroIn KX1 T.own) (fun h' e kk => ?_)
  have I2 := I.kept (t' := tk1) kk
  have KX2 : K.In h' := I2.kIn
  have hC2 := KX2 _ _ hC
  have ho2 := kk _ _ ho
  have hcls : PySem.W.clsIn K C = some { name := nm, bases := bs, mro := .ref C :: bm, ns := NN, qualname := q, hasDict := true, slotNames := sn, subclasses := sub, abstract := ab, collection := col, hasDel := false } := by
    unfold PySem.W.clsIn
    rw [hC] <;> rfl
  have hini := T.ini
  unfold PySem.W.ks_superIn at hini
  rw [hcls, Option.bind_some] at hini
  have Ia : PySem.W.InstAt h' a _ C none := ⟨ho2, rfl, rfl, trivial⟩
  refine PySem.W.kxs_getMethod PySem.W.kxs_ValueError e (PySem.W.looks_opaque KX2 T.opq) (l₀ := .ref C :: bm) (fun A Q E s k q => wpAny_bind ((PySem.W.looks_clsIn KX2 hcls) A _ E s k (wpAny_pure q))) rfl KX2 hini (Ia.type.andThen (PySem.W.looks_subIn KX2 T.ve)) hne (by decide) ?_
  have kp3 : ∀ b o, h'.get? b = some o → (h'.push (PySem.W.kxs_mw "ValueError.__init__" a)).get? b = some o := fun b o e => Heap.get?_push_of_some _ e
  have I3 := I2.kept (h' := h'.push (PySem.W.kxs_mw "ValueError.__init__" a)) (t' := tk1 + 1) kp3
  have hu3 : (h'.push (PySem.W.kxs_mw "ValueError.__init__" a)).get? h'.objs.size = some (PySem.W.kxs_mw "ValueError.__init__" a) := Heap.get?_push_at rfl rfl
  have I4 : Inv (ncx CX P w K mg base N F fI A outer s H E) [(h'.objs.size, PySem.W.kxs_mw "ValueError.__init__" a)] (startF N vs [none]) H _ := I3.pins_of fun p hp => by
    rw [List.mem_singleton.mp hp]
    exact ⟨hu3, I2.hok.fresh (Nat.le_refl _), Nat.ne_of_gt I2.lt, I2.nofs (Nat.le_refl _), fun v z => by cases z⟩
  have ha1 : PA (ncx CX P w K mg base N F fI A outer s H E) [msg] _ := pa_cons hm1 pa_nil (hst _)
  have hst' := hst s.heap.objs.size
  refine PySem.W.kxs_callWith (i := "ValueError.__init__") (x := a) (by rw [hst']; rfl) ?_
  rw [hst']
  refine PySem.Calls.evalArgs_plain ?_
  have hrun := ha1.run p3 _ _ (startF N vs [none]) H (fun vs' H1 => vs'.length = 1 ∧ H1 a = some (exo a C none) ∧ t2 { nx := fun _ H' => Q .non H', rt := Q } (startF N vs [none]) H1) I4 ?_
  · have hst2 : backTo p3 (starEach [msg] (ncx CX P w K mg base N F fI A outer s H E).env) = backTo p3 ((false, eval msg (envF F fI s.heap.objs.size)) :: starEach [] (envF F fI s.heap.objs.size)) := congrArg (backTo p3) hst'
    rw [hst2] at hrun
    refine wpAny_mono hrun (fun ws s2 hw => ?_) fun e s' he => he
    obtain ⟨vs', H1, J, rv, hlen, ha2, hq2⟩ := hw
    have hu := (J.pin _ (List.mem_append_right _ (List.mem_singleton.mpr rfl))).1
    refine ⟨hu, ?_⟩
    have J0 : Inv (ncx CX P w K mg base N F fI A outer s H E) [] (startF N vs [none]) H1 s2 := J.pins_of fun p hp => by cases hp
    refine call_mw T.oex J0 ha2 hu (by
      show ws.length ≤ _
      rw [← rv.length, hlen, sizeLine_eq]; decide) fun s3 J3 => ?_
    refine wpAt_of_wpAny ?_
    refine wpAny_mono (h2.run [] s3 _ H1 _ J3 hq2) (fun fl s' hs => ?_) fun e s' hs => hs
    have fin : ∀ {σ' : L2.St} {H' : Hp} {v : V} {u : Value}, Inv (ncx CX P w K mg base N F fI A outer s H E) [] σ' H' s' → L2.RelV v u → Q v H' → CE outer P w H s Q u s' :=
      fun {σ' H' v u} J rv q => ⟨v, H', J.os, J.bare, J.base, J.hok, rv, q⟩
    cases fl with
    | ret u =>
      obtain ⟨v, σ', H', J, rv, q⟩ := hs
      exact fin J rv q
    | next =>
      obtain ⟨σ', H', J, q⟩ := hs
      exact fin (v := V.non) (u := Value.none) J rfl q
    | brk =>
      obtain ⟨_, _, _, q⟩ := hs
      exact False.elim q
    | cont =>
      obtain ⟨_, _, _, q⟩ := hs
      exact False.elim q
  · exact hq
end
end EX
/-! own errors: made, their fields, isinstance of them -/
namespace EX
open PySem PySem.Spec PyProof.Rows L2 NdefX
set_option autoImplicit false
section
variable {X : Cx}
/-- {x}: a text, an int or None, as a text that is not told -/
def MsgOk (x : V) : Prop := (∃ y : Str, x = .str y ∧ y.length ≤ 1000) ∨ (∃ i : Int, x = .int i ∧ i.natAbs.log2 < 1920) ∨ x = .non
def tFmtN (te : TE) : TE := fun σ H Q => te σ H fun x H1 => MsgOk x ∧ ∀ y : Str, y.length ≤ 10000 → Q (.str y) H1
theorem int_text {i : Int} (h : i.natAbs.log2 < 1920) : (Str.ofString (toString i)).length ≤ 10000 := by
  have e := int_text_length_le (k := 1920) (by decide) h
  rw [PySem.ofString_length]
  omega
theorem pe_fmtN {e : Expr} {te : TE} {pos : Pos} (he : PE X e te) : PE X (.FormattedValue e (-1) none pos) (tFmtN te) := by
  refine ⟨fun pins s σ H Q I h => ?_⟩
  refine wpAny_FormattedValue_plain (thn (he.run pins s σ H _ I h) fun v s1 hv => ?_)
  obtain ⟨x, H1, I1, r1, q, k⟩ := hv
  rcases q with ⟨y, rfl, hz⟩ | ⟨i, rfl, hz⟩ | rfl
  · obtain ⟨t, rfl⟩ := r1
    have q := k y (by omega)
    exact wpAny_formatField_str ⟨.str y, H1, I1, ⟨t, rfl⟩, q⟩ ⟨.str y, H1, I1.tok _, ⟨_, rfl⟩, q⟩ (by rw [sizeLine_eq]; omega)
  · obtain ⟨t, rfl⟩ := r1
    exact wpAny_formatField_int hz ⟨.str (toString i), H1, I1.tok _, ⟨_, rfl⟩, k _ (int_text hz)⟩
  · obtain rfl : v = Value.none := r1
    exact wpAny_formatField_none ⟨.str "None", H1, I1.tok _, ⟨_, rfl⟩, k "None" (by decide)⟩
/-- one argument, its end weakened -/
theorem pa_one {e : Expr} {te : TE} (he : PE X e te) (hs : starEach [e] X.env = (false, eval e X.env) :: starEach [] X.env := by rfl) : PA X [e] (fun σ H Q => ∃ Q0 : VK, te σ H Q0 ∧ ∀ y H1, Q0 y H1 → Q [y] H1) := by
  have h1 : PA X [e] _ := pa_cons he pa_nil hs
  refine ⟨fun pos pins s σ H Q I h => ?_⟩
  obtain ⟨Q0, h0, k⟩ := h
  have h2 := h1.run pos pins s σ H (fun vs H1 => ∃ y, vs = [y] ∧ Q0 y H1) I ?_
  · refine thn h2 fun us s1 hh => ?_
    obtain ⟨vs, H1, J, rv, y, rfl, q⟩ := hh
    exact ⟨[y], H1, J, rv, k y H1 q⟩
  · have e2 : (fun (x : V) (H1 : Hp) => ∃ y, [x] = [y] ∧ Q0 y H1) = Q0 := by
      funext x H1
      exact propext ⟨fun ⟨y, e, q⟩ => by cases e; exact q, fun q => ⟨x, rfl, q⟩⟩
    show te σ H (fun (x : V) (H1 : Hp) => ∃ y, [x] = [y] ∧ Q0 y H1)
    rw [e2]
    exact h0
end
/-! ### the class -/
def oexB (K : PySem.W.Frag) (C : Addr) : Bool := match K.lookup C with
  | some ⟨.type "type", _, .cls cd, sl⟩ => (match cd.mro, sl.toList with
    | .ref C' :: bm, [_, _, _, _, some (.builtin n), _] => C' == C && n == "ValueError.__new__" && !cd.hasDel && cd.hasDict && PySem.HandSPX.refsVE bm
    | _, _ => false)
  | _ => false
theorem oexB_ok {K : PySem.W.Frag} {C : Addr} (q : oexB K C = true) : ∃ nm q N bs bm sn sub ab col dd k0 k1 k2 k3 k5, K.lookup C = some (excClassObj nm q C N bs bm true sn sub ab col dd k0 k1 k2 k3 k5 "ValueError.__new__") ∧ PySem.HandSPX.refsVE bm = true := by
  unfold oexB at q
  split at q
  · rename_i dd cd sl ho
    split at q
    · rename_i C' bm k0 k1 k2 k3 n k5 hm hs
      simp only [Bool.and_eq_true, beq_iff_eq, Bool.not_eq_true'] at q
      obtain ⟨⟨⟨⟨rfl, rfl⟩, hdel⟩, hh⟩, ht⟩ := q
      obtain ⟨nm, bs, mro, ns, qn, hd, sn, sub, ab, col, del⟩ := cd
      dsimp only at hm hdel hh
      subst hm hdel hh
      have hsl : sl = #[k0, k1, k2, k3, some (.builtin "ValueError.__new__"), k5] := by
        obtain ⟨l⟩ := sl
        simp only at hs
        rw [hs]
      subst hsl
      exact ⟨nm, qn, ns, bs, bm, sn, sub, ab, col, dd, k0, k1, k2, k3, k5, ho, ht⟩
    · cases q
  · cases q
/-- an own error's class -/
structure ErrC (K : PySem.W.Frag) (C : Addr) : Prop where
  oex : OexC K C
  xf : XfC K C
  ha : PySem.W.findIn K (.ref C) "__class__" = some (some (.builtin "object.__class__"))
  hn : PySem.W.specialIn K (.builtin "object.__class__") "__get__" = some (some (.builtin "getset_descriptor.__get__"))
  ht : PySem.W.takesIn K (.builtin "object.__class__") = some true
  hm : PySem.W.mroIn K C (.type "object") = some true
def errB (K : PySem.W.Frag) (C : Addr) : Bool := oexB K C && (decide (PySem.W.findIn K (.ref C) "__setattr__" = some (some (.builtin "object.__setattr__"))) && (decide (PySem.W.subIn K (.ref C) (.type "BaseException") = some true) && (decide (PySem.W.typeIn K (.ref C) = some (.type "type")) && (PySem.W.keepIn K (.ref C) && (xfB K C &&
  (decide (PySem.W.findIn K (.ref C) "__class__" = some (some (.builtin "object.__class__"))) && (decide (PySem.W.specialIn K (.builtin "object.__class__") "__get__" = some (some (.builtin "getset_descriptor.__get__"))) && (decide (PySem.W.takesIn K (.builtin "object.__class__") = some true) && decide (PySem.W.mroIn K C (.type "object") = some true)))))))))
theorem errB_ok {K : PySem.W.Frag} {C : Addr} (h : errB K C = true) : ErrC K C := by
  unfold errB at h
  simp only [Bool.and_eq_true, decide_eq_true_eq] at h
  obtain ⟨h1, h2, h3, h4, h5, h6, h7, h8, h9, h10⟩ := h
  exact ⟨⟨oexB_ok h1, h2, h3, h4, h5⟩, xfB_ok h6, h7, h8, h9, h10⟩
/-! ### a caught error: its fields, isinstance -/
def tXfE (K : PySem.W.Frag) (a : Addr) (cls : Value) (d : Option Addr) (f : Str) (te : TE) : TE := fun σ H Q => te σ H fun x H1 => ∃ C : Addr, x = .ref a ∧ cls = .ref C ∧ ErrC K C ∧ PySem.W.findIn K (.ref C) f = some none ∧ ∃ (dd : Addr) (fs : List (Str × V)) (v : V), d = some dd ∧ H1 dd = some (.xd fs) ∧ fs.lookup f = some v ∧ Q v H1
theorem pe_xfE {X : Cx} {a : Addr} {oe : Obj} {cls : Value} {d : Option Addr} {pn : List (Addr × Obj)} {e : Expr} {te : TE} {pos : Pos} {n : Str}
    (hz : Zc cls d oe) (hf : ∃ vs, oe.data = .fields vs) (he : PE (X.suite a ((a, oe) :: pn)) e te) (hb : attributeBase e n X.env (eval e X.env) = eval e X.env := by rfl) :
    PE (X.suite a ((a, oe) :: pn)) (.Attribute e n pos) (tXfE X.K a cls d n te) := by
  refine ⟨fun pins s σ H Q I h => ?_⟩
  refine attr_of hb (thn (he.run pins s σ H _ I h) fun u s1 hh => ?_)
  obtain ⟨x, H1, I1, rx, C, ex, ec, T, hno, dd, fs, v, ed, ea, l, q⟩ := hh
  subst ex
  obtain rfl : u = Value.ref a := rx
  subst ec
  subst ed
  obtain ⟨ha, _⟩ := I1.pin (a, oe) (List.mem_append_left _ List.mem_cons_self)
  obtain ⟨vs, hd⟩ := hf
  have hx : ObjOk X.prog X.w H1 s1.heap dd (.xd fs) := I1.hok dd _ ea
  obtain ⟨mA, hns, hr⟩ := hx
  obtain ⟨od, ho, hl⟩ := lookIn_ns hns
  obtain ⟨u, hu, ru⟩ := RelO.some_of (v := v) (o := mA n) (by rw [← l]; exact hr n)
  have J : PySem.W.InstAt s1.heap a oe C (some od) := ⟨ha, hz.1, by unfold PySem.W.notCls; rw [hd] <;> rfl, by rw [hz.2]; exact ho⟩
  exact HandSPX.exc_get I1.kIn J T.xf.ga T.xf.gg T.xf.exC (PySem.W.findObj_own T.xf.hdC hno rfl (by rw [hl, hu])) (handed_of ru) ⟨v, H1, I1.tok _, ru, q⟩
theorem kit_err {K : PySem.W.Frag} {C x : Addr} {ox : Obj} {od : Option Obj} (T : ErrC K C) : PySem.W.KitX K (.ref x) (.ref C) (fun h => PySem.W.InstAt h x ox C od) := by
  have hf : PySem.W.findObj K C od "__class__" = some (.bind (.builtin "getset_descriptor.__get__") (.builtin "object.__class__")) := PySem.W.findObj_dataE (by obtain ⟨cd, hc, _⟩ := PySem.W.any_some T.xf.hdC; rw [hc]; rfl) T.ha T.hn T.ht
  exact {
    ty := fun _ _ _ I => I.type
    it := fun _ _ X _ => by
      obtain ⟨cdD, hcD, _⟩ := PySem.W.any_some T.xf.hdC
      unfold PySem.W.clsIn at hcD
      split at hcD
      · rename_i c' d' cd' sl' ho
        intro A' Q' E' s' k q
        unfold isType loadHead
        exact wpAny_bind (wpAny_loadPart (k _ _ (X _ _ ho)) (wpAny_pure q))
      · cases hcD
    ne := fun h tp dd its n sl X htp => by
      obtain ⟨cdD, hcD, _⟩ := PySem.W.any_some T.xf.hdC
      refine Bool.eq_false_iff.mpr fun q => ?_
      have e : C = tp := Value.ref.inj (beq_iff_eq.mp q)
      subst e
      unfold PySem.W.clsIn at hcD
      split at hcD
      · rename_i c' d' cd' sl' ho
        have z := (X _ _ ho).symm.trans htp
        cases z
      · cases hcD
    ca := fun X I k => PySem.W.kx_classE X I T.xf.ga T.xf.gg T.xf.exC hf T.hm k }
/-- isinstance(e, c), e the exception that the suite holds -/
def rIsX (K : PySem.W.Frag) (a : Addr) (cls : Value) (d : Option Addr) : List V → Hp → VK → Prop := fun xs H Q => ∃ (C : Addr) (c : V) (cv : Value) (b : Bool), xs = [.ref a, c] ∧ cls = .ref C ∧ ErrC K C ∧ (∀ dd, d = some dd → ∃ fs, H dd = some (.xd fs)) ∧ (∀ u, RelV c u → u = cv) ∧ PySem.W.kitOne K (.ref C) cv = some b ∧ Q (.bl b) H
theorem inst_err {X : Cx} {pins pn : List (Addr × Obj)} {σ : L2.St} {H : Hp} {s : Shared} {a C : Addr} {oe : Obj} {d : Option Addr} (I : Inv (X.suite a ((a, oe) :: pn)) pins σ H s) (hz : Zc (.ref C) d oe) (hf : ∃ vs, oe.data = .fields vs) (hd : ∀ dd, d = some dd → ∃ fs, H dd = some (.xd fs)) : ∃ od, PySem.W.InstAt s.heap a oe C od := by
  obtain ⟨hget, _⟩ := I.pin (a, oe) (List.mem_append.mpr (.inl List.mem_cons_self))
  obtain ⟨vs, hv⟩ := hf
  cases d with
  | none => exact ⟨none, hget, hz.1, by unfold PySem.W.notCls; rw [hv] <;> rfl, by rw [hz.2]; trivial⟩
  | some dd =>
    obtain ⟨fs, e⟩ := hd dd rfl
    have hx : ObjOk X.prog X.w H s.heap dd (.xd fs) := I.hok dd _ e
    obtain ⟨mA, hns, hr⟩ := hx
    obtain ⟨od, ho, hl⟩ := lookIn_ns hns
    exact ⟨some od, hget, hz.1, by unfold PySem.W.notCls; rw [hv] <;> rfl, by rw [hz.2]; exact ho⟩
theorem call_isX {X : Cx} {a : Addr} {oe : Obj} {cls : Value} {d : Option Addr} {pn : List (Addr × Obj)} (hz : Zc cls d oe) (hf : ∃ vs, oe.data = .fields vs) : CallR (X.suite a ((a, oe) :: pn)) (.builtin "isinstance") (rIsX X.K a cls d) := by
  intro pins s σ H xs us Q I r h
  obtain ⟨C, c, cv, b, rfl, rfl, T, hd, hcv, e, q⟩ := h
  cases r with
  | cons rx rr =>
    cases rr with
    | cons rt rr =>
      cases rr
      cases rx
      have ec := hcv _ rt
      subst ec
      obtain ⟨od, J⟩ := inst_err I hz hf hd
      exact PySem.W.kia_one (kit_err T) I.kIn J e (fun z => nomatch z) fun tk => ⟨.bl b, H, I.kept (t' := tk) fun _ _ z => z, rfl, q⟩
/-- isinstance(e, (c, ..)) -/
def rIsXT (K : PySem.W.Frag) (a : Addr) (cls : Value) (d : Option Addr) : List V → Hp → VK → Prop := fun xs H Q => ∃ (C t : Addr) (cs : List V) (cvs : List Value) (b : Bool), xs = [.ref a, .ref t] ∧ cls = .ref C ∧ ErrC K C ∧ (∀ dd, d = some dd → ∃ fs, H dd = some (.xd fs)) ∧ H t = some (.tup cs) ∧ (∀ us, Vals cs us → us = cvs) ∧ PySem.W.kitAny K (.ref C) cvs = some b ∧ Q (.bl b) H
theorem call_isXT {X : Cx} {a : Addr} {oe : Obj} {cls : Value} {d : Option Addr} {pn : List (Addr × Obj)} (hz : Zc cls d oe) (hf : ∃ vs, oe.data = .fields vs) : CallR (X.suite a ((a, oe) :: pn)) (.builtin "isinstance") (rIsXT X.K a cls d) := by
  intro pins s σ H xs us Q I r h
  obtain ⟨C, t, cs, cvs, b, rfl, rfl, T, hd, ht, hcv, e, q⟩ := h
  cases r with
  | cons rx rr =>
    cases rr with
    | cons rt rr =>
      cases rr
      cases rx
      cases rt
      obtain ⟨od, J⟩ := inst_err I hz hf hd
      have hx : ObjOk X.prog X.w H s.heap t (.tup cs) := I.hok t _ ht
      obtain ⟨hl, its, hv, ⟨oc, od', dt, sl⟩, ho, hc, n, hd2⟩ := hx
      dsimp only at hc hd2
      subst hc hd2
      have eI := hcv _ hv
      subst eI
      exact PySem.W.kia_tup (kit_err T) I.kIn J ho e (fun z => nomatch z) fun tk => ⟨.bl b, H, I.kept (t' := tk) fun _ _ z => z, rfl, q⟩
/-! ### an error is made -/
/-- what __init__ promises -/
def spErr (C : Addr) (fl : Str) (ok : V → Prop) : Sp := fun vs H Q _ => ∃ (a : Addr) (y : V), vs = [.ref a, y] ∧ H a = some (exo a C none) ∧ ok y ∧ ∀ dx, H dx = none → dx ≠ a → Q .non (upd (upd H dx (exd dx [(fl, y)])) a (exo a C (some dx)))
/-- C(e): the class, its dict with the one field -/
def tMkE (C : Addr) (fl : Str) (ok : V → Prop) (te : TE) : L2.St → Hp → XK → Prop := fun σ H Q => te σ H fun y H1 => ok y ∧ ∀ d, H1 d = none → Q (.ref C) (some d) (upd H1 d (.xd [(fl, y)]))
theorem pmk_err {X : Cx} {x fl : Str} {ok : V → Prop} {C fI : Addr} {fd : FuncData} {k : Nat} {e : Expr} {te : TE} {p pos : Pos} (T : ErrC X.K C) (iC : PySem.W.findIn X.K (.ref C) "__init__" = some (some (.ref fI))) (tI : PySem.W.typeIn X.K (.ref fI) = some (.type "function"))
    (F1 : FnOk X.prog X.w X.K X.mg X.base CX0 k fI fd ["self", fl] (spErr C fl ok)) (hr : Room (k + 1) X.A) (hb : Binds X.K fd ["self", fl] []) (hg : Gl X x) (hm : X.mg x = some (.ref C)) (he : PE X e te)
    (hdb : (x == ("__debug__" : Str)) = false := by decide) (hs : starEach [e] X.env = (false, eval e X.env) :: starEach [] X.env := by rfl) : PMk X (.Call (.Name x p) [e] [] pos) (tMkE C fl ok te) := by
  intro pins s σ H Q I h
  have h0 := pmk_oex (p := p) (pos := pos) T.oex iC tI F1 hr hb .nil pass0 hg hm (pa_one he hs) hdb hs (by rfl)
  refine h0 pins s σ H Q I ⟨_, h, fun y H1 ⟨oky, k⟩ => ⟨by show 1 ≤ 1000; decide, fun a na => ⟨a, y, rfl, upd_same, oky, fun dx ndx ne => ?_⟩⟩⟩
  have n1 : H1 dx = none := by
    rw [upd_ne ne] at ndx
    exact ndx
  refine ⟨rfl, dx, [(fl, y)], upd_same, (upd_ne ne).trans upd_same, n1, ?_⟩
  have eh : upd (del (upd (upd (upd H1 a (exo a C none)) dx (exd dx [(fl, y)])) a (exo a C (some dx))) a) dx (.xd [(fl, y)]) = upd H1 dx (.xd [(fl, y)]) := by
    funext b
    by_cases h1 : b = dx
    · rw [h1, upd_same, upd_same]
    · rw [upd_ne h1, upd_ne h1]
      by_cases h2 : b = a
      · rw [h2, del_same, na]
      · rw [del_ne h2, upd_ne h2, upd_ne h1, upd_ne h2]
  rw [eh]
  exact k dx n1
/-- C(), no own __init__ -/
theorem pmk_err0 {X : Cx} {x : Str} {C : Addr} {p pos : Pos} (q : PySem.W.excIn X.K C He.veBase "ValueError.__new__" = true) (T : ErrC X.K C) (hg : Gl X x) (hm : X.mg x = some (.ref C))
    (hdb : (x == ("__debug__" : Str)) = false := by decide) : PMk X (.Call (.Name x p) [] [] pos) (fun _ H Q => Q (.ref C) none H) := by
  intro pins s σ H Q I h
  refine wpAny_Call_Name_kw (ld_glob I hg hm ?_ hdb)
  refine PySem.W.callWith_K0 I.kIn T.oex.kC ?_
  obtain ⟨bm, N, nm, qn, bs, hdct, sn, sub, ab, col, dd, k0, k1, k2, k3, k5, mN, hC, hN, hni, Tl⟩ := exc_obj I.kIn q
  refine wpAny_call_exc_subT F.excBase_ValueError Tl hC hN hni (fun h' e hm => ?_) (by show 0 ≤ sizeLine; rw [sizeLine_eq]; omega)
  exact mk_of I hm (raises_own T.oex.exC T.oex.tyC) h (I.hok.gone hm.new)
end EX
/-! own errors as the top leaves them -/
namespace EX
open PySem PySem.Spec PyProof.Rows L2 NdefX
set_option autoImplicit false
/-- an error class with its __init__(self, fl) -/
structure DfE (P : Program) (K : PySem.W.Frag) (mg : Str → Option Value) (x fl : Str) (ok : V → Prop) where
  C : Addr
  fI : Addr
  fd : FuncData
  g : mg x = some (.ref C)
  T : ErrC K C
  iC : PySem.W.findIn K (.ref C) "__init__" = some (some (.ref fI))
  tI : PySem.W.typeIn K (.ref fI) = some (.type "function")
  no : PySem.W.findIn K (.ref C) fl = some none
  b : Binds K fd ["self", fl] []
  F : ∀ (w : World) (base : Heap), FnOk P w K mg base CX0 1 fI fd ["self", fl] (spErr C fl ok)
/-- an error class without an __init__ -/
structure DfE0 (K : PySem.W.Frag) (mg : Str → Option Value) (x : Str) where
  C : Addr
  g : mg x = some (.ref C)
  T : ErrC K C
  q : PySem.W.excIn K C He.veBase "ValueError.__new__" = true
/-! ### the two bodies -/
theorem app_len (a b : Str) : (a ++ b).length = a.length + b.length := by
  show (a.cps ++ b.cps).size = a.cps.size + b.cps.size
  rw [Array.size_append]
section
variable {P : Program} {w : World} {K : PySem.W.Frag} {mg : Str → Option Value} {base : Heap} {C fI cc : Addr} {F : NF} {fl : Str} {oc doc pm ctv : Value} {od : Option Addr} {osl : Array (Option Value)} {ar : Arg}
/-- f'.. {fl}' -/
theorem init_f {p0 p1 p2 p3 p4 q1 q2 q3 q4 q5 q6 q7 q8 : Pos} {m : Str} {j : Nat} {pl : Addr → Sem Bool} (T : SupC P K C fI cc F) (lk : K.lookup fI = some ⟨oc, od, .func (F.fd doc pm ctv), osl⟩) (hm : mg "super" = none) (S : NScope ["self", fl, "__class__"] ["self", fl] ["__class__"] F.scope) (no : PySem.W.findIn K (.ref C) fl = some none)
    (hbody : F.body = [.Expr (.Call (.Attribute (.Call (.Name "super" p0) [] [] p1) "__init__" p2) [.JoinedStr [.Constant (.str m) j q1, .FormattedValue (.Name fl q2) (-1) none q3] q4] [] p3) p4, .Assign [.Attribute (.Name "self" q5) fl q6] (.Name fl q7) q8]) (hml : m.length ≤ 1000)
    (hpar : (F.params.posonlyargs ++ F.params.args).head? = some ar) (har : ar.arg = "self") (hks : F.scope.names.lookup ("super" : Str) = some .globalImplicit) (hdb : (fl == ("__debug__" : Str)) = false) (hdc : (fl == ("__classdict__" : Str)) = false)
    (he : ∀ L : Addr, eval (.Call (.Attribute (.Call (.Name "super" p0) [] [] p1) "__init__" p2) [.JoinedStr [.Constant (.str m) j q1, .FormattedValue (.Name fl q2) (-1) none q3] q4] [] p3) (envF F fI L) = (do
      let ov ← attributeBase (.Call (.Name "super" p0) [] [] p1) "__init__" (envF F fI L) (eval (.Call (.Name "super" p0) [] [] p1) (envF F fI L))
      standAt p2.atName
      let (f, first) ← holding [ov] (getMethod ov "__init__" (pl L))
      callWith p3 f first (backTo p3 (starEach [.JoinedStr [.Constant (.str m) j q1, .FormattedValue (.Name fl q2) (-1) none q3] q4] (envF F fI L))) [])) :
    FnOk P w K mg base CX0 1 fI (F.fd doc pm ctv) ["self", fl] (spErr C fl MsgOk) := by
  have vs : F.scope.names.lookup ("self" : Str) = some .local := S.par "self" (List.mem_cons_self ..)
  have vf : F.scope.names.lookup fl = some .local := S.par fl (List.mem_cons_of_mem _ (List.mem_cons_self ..))
  refine sup_ok (k := 0) T lk hm S hbody hpar har hks (fun vs H Q E h => ?_) (fun A outer s H vs Q E hr h => ?_) he (fun L => rfl) (fun L => rfl)
  · obtain ⟨a, y, rfl, _⟩ := h
    rfl
  · obtain ⟨a, y, rfl, ha, ok, k⟩ := h
    refine ⟨a, y, _, _, rfl, ha, pe_joined (.cons pe_str (.cons (pe_fmtN (pe_var (i := 1) rfl (.inl vf) (hd := hdb) (hcd := hdc))) .nil)), pss_one (ps_ost (pe_var (i := 0) rfl (.inl vs)) (pe_var (i := 1) rfl (.inl vf) (hd := hdb) (hcd := hdc)) (by rfl)), ?_⟩
    refine ⟨m, rfl, by rw [app_len, sizeLine_eq]; show 0 + _ ≤ _; omega, y, rfl, ok, fun z hz => ⟨z, rfl, by rw [app_len, app_len, sizeLine_eq]; show 0 + _ + _ ≤ _; omega, rfl, ha, y, rfl, .ref a, rfl, a, C, rfl, T.oex, no, .inl ⟨ha, fun dx n1 n2 => k dx n1 n2⟩⟩⟩
/-- a written text -/
theorem init_c {p0 p1 p2 p3 p4 q1 q5 q6 q7 q8 : Pos} {m : Str} {j : Nat} {pl : Addr → Sem Bool} (T : SupC P K C fI cc F) (lk : K.lookup fI = some ⟨oc, od, .func (F.fd doc pm ctv), osl⟩) (hm : mg "super" = none) (S : NScope ["self", fl, "__class__"] ["self", fl] ["__class__"] F.scope) (no : PySem.W.findIn K (.ref C) fl = some none)
    (hbody : F.body = [.Expr (.Call (.Attribute (.Call (.Name "super" p0) [] [] p1) "__init__" p2) [.Constant (.str m) j q1] [] p3) p4, .Assign [.Attribute (.Name "self" q5) fl q6] (.Name fl q7) q8])
    (hpar : (F.params.posonlyargs ++ F.params.args).head? = some ar) (har : ar.arg = "self") (hks : F.scope.names.lookup ("super" : Str) = some .globalImplicit) (hdb : (fl == ("__debug__" : Str)) = false) (hdc : (fl == ("__classdict__" : Str)) = false)
    (he : ∀ L : Addr, eval (.Call (.Attribute (.Call (.Name "super" p0) [] [] p1) "__init__" p2) [.Constant (.str m) j q1] [] p3) (envF F fI L) = (do
      let ov ← attributeBase (.Call (.Name "super" p0) [] [] p1) "__init__" (envF F fI L) (eval (.Call (.Name "super" p0) [] [] p1) (envF F fI L))
      standAt p2.atName
      let (f, first) ← holding [ov] (getMethod ov "__init__" (pl L))
      callWith p3 f first (backTo p3 (starEach [.Constant (.str m) j q1] (envF F fI L))) [])) :
    FnOk P w K mg base CX0 1 fI (F.fd doc pm ctv) ["self", fl] (spErr C fl fun _ => True) := by
  have vs : F.scope.names.lookup ("self" : Str) = some .local := S.par "self" (List.mem_cons_self ..)
  have vf : F.scope.names.lookup fl = some .local := S.par fl (List.mem_cons_of_mem _ (List.mem_cons_self ..))
  refine sup_ok (k := 0) T lk hm S hbody hpar har hks (fun vs H Q E h => ?_) (fun A outer s H vs Q E hr h => ?_) he (fun L => rfl) (fun L => rfl)
  · obtain ⟨a, y, rfl, _⟩ := h
    rfl
  · obtain ⟨a, y, rfl, ha, ok, k⟩ := h
    refine ⟨a, y, _, _, rfl, ha, pe_str, pss_one (ps_ost (pe_var (i := 0) rfl (.inl vs)) (pe_var (i := 1) rfl (.inl vf) (hd := hdb) (hcd := hdc)) (by rfl)), ?_⟩
    exact ⟨rfl, ha, y, rfl, .ref a, rfl, a, C, rfl, T.oex, no, .inl ⟨ha, fun dx n1 n2 => k dx n1 n2⟩⟩
end
/-! ### the top's facts -/
/-- an __init__: its class, its field, its def -/
structure InD where
  cls : Str
  qual : Str
  fld : Str
  params : Arguments
  body : List Stmt
  scope : Scope
abbrev FnY : Type := Option (Str × Str × Arguments × FuncBody × Scope × Addr × Value × Value × Option Addr × Addr)
def fnY (K : PySem.W.Frag) (x : Str) : FnY := match K.lookup (He.ma K (He.ga K x) "__init__") with
  | some ⟨_, _, .func fd, _⟩ => some (fd.name, fd.qualname, fd.params, fd.body, fd.scope, fd.globals, fd.defaults, fd.kwdefaults, fd.annotations, fd.builtins)
  | _ => none
def InD.val (d : InD) : FnY := some ("__init__", d.qual, d.params, .stmts d.body, d.scope, mainGlobals, .none, .none, none, builtinsNs)
/-- the code object of the program's own text -/
def codeB (P : Program) (K : PySem.W.Frag) (c : Addr) (q : Str) : Bool := PySem.W.codeIn K (.ref c) q && (match K.lookup c with
  | some ⟨_, _, .fields vs, _⟩ => (match (vs[2]? : Option Value) with
    | some (Value.str file _) => (P.main.file : Str) == file
    | _ => false)
  | _ => false)
def codeV (P : Program) (K : PySem.W.Frag) (v : Value) (q : Str) : Bool := match v with
  | .ref c => codeB P K c q
  | _ => false
def cellB (K : PySem.W.Frag) (C c : Addr) : Bool := match K.lookup c with
  | some ⟨_, _, .cell (some (.ref D)), _⟩ => D == C
  | _ => false
def clB (K : PySem.W.Frag) (C : Addr) (l : List (Str × Addr)) : Bool := match l with
  | [(y, c)] => decide (y = "__class__") && cellB K C c
  | _ => false
def fdB (P : Program) (K : PySem.W.Frag) (C fI : Addr) : Bool := match K.lookup fI with
  | some ⟨_, _, .func fd, _⟩ => clB K C fd.closure && codeV P K fd.code fd.qualname
  | _ => false
def supB (P : Program) (K : PySem.W.Frag) (d : InD) : Bool := errB K (He.ga K d.cls) && (fdB P K (He.ga K d.cls) (He.ma K (He.ga K d.cls) "__init__") && (decide (PySem.W.nsIn K cStatics "thirdparty.any" = some none) && (decide (PySem.W.ks_superIn K (He.ga K d.cls) (He.ga K d.cls) "__init__" = some (some (.builtin "ValueError.__init__"))) &&
  (decide (PySem.W.subIn K (.ref (He.ga K d.cls)) (.type "ValueError") = some true) && (decide (PySem.W.mroIn K (He.ga K d.cls) (.ref (He.ga K d.cls)) = some true) && (decide (PySem.W.findIn K (.ref (He.ga K d.cls)) "__init__" = some (some (.ref (He.ma K (He.ga K d.cls) "__init__")))) &&
  (decide (PySem.W.typeIn K (.ref (He.ma K (He.ga K d.cls) "__init__")) = some (.type "function")) && (decide (PySem.W.findIn K (.ref (He.ga K d.cls)) d.fld = some none) && He.eqO (PySem.W.nsIn K mainGlobals d.cls) (some (some (.ref (He.ga K d.cls))))))))))))
theorem cellB_ok {K : PySem.W.Frag} {C c : Addr} (h : cellB K C c = true) : ∃ (cl : Value) (cld : Option Addr) (csl : Array (Option Value)), K.lookup c = some (⟨cl, cld, .cell (some (.ref C)), csl⟩ : Obj) := by
  unfold cellB at h
  split at h
  · rename_i a b D s e
    have : D = C := eq_of_beq h
    subst this
    exact ⟨a, b, s, e⟩
  · cases h
theorem codeB_ok {P : Program} {K : PySem.W.Frag} {c : Addr} {q : Str} (h : codeB P K c q = true) : PySem.W.codeIn K (.ref c) q = true ∧ ∃ (ccl : Value) (cdd : Option Addr) (vs : Array Value) (ccs : Array (Option Value)) (file : Str) (tf : Tok), K.lookup c = some (⟨ccl, cdd, .fields vs, ccs⟩ : Obj) ∧ vs[2]? = some (Value.str file tf) ∧ ((P.main.file : Str) == file) = true := by
  unfold codeB at h
  obtain ⟨h1, h⟩ := Bool.and_eq_true_iff.mp h
  refine ⟨h1, ?_⟩
  split at h
  · rename_i a b vs s e
    split at h
    · rename_i file t e2
      exact ⟨a, b, vs, s, file, t, e, e2, h⟩
    · cases h
  · cases h
/-- what is known of the class behind the top -/
theorem init_at {P : Program} {K : PySem.W.Frag} {d : InD} (e : fnY K d.cls = d.val) (c : supB P K d = true) (top : (P.main.scope.names.lookup ("super" : Str)).isSome = false) :
    ∃ (F : NF) (cc : Addr) (oc doc pm ctv : Value) (od : Option Addr) (osl : Array (Option Value)), F.name = "__init__" ∧ F.qual = d.qual ∧ F.params = d.params ∧ F.body = d.body ∧ F.scope = d.scope ∧ SupC P K (He.ga K d.cls) (He.ma K (He.ga K d.cls) "__init__") cc F ∧ K.lookup (He.ma K (He.ga K d.cls) "__init__") = some ⟨oc, od, .func (F.fd doc pm ctv), osl⟩ := by
  unfold supB at c
  simp only [Bool.and_eq_true, decide_eq_true_eq] at c
  obtain ⟨c1, c2, c3, c4, c5, c6, c7, c8, c9, c10⟩ := c
  have E := errB_ok c1
  unfold fdB at c2
  unfold fnY at e
  cases q : K.lookup (He.ma K (He.ga K d.cls) "__init__") with
  | none =>
    rw [q] at c2
    cases c2
  | some o =>
    obtain ⟨oc, od, dt, osl⟩ := o
    rw [q] at c2 e
    cases dt with
    | func fd =>
      obtain ⟨n1, n2, n3, n4, n5, n6, n7, n8, n9, n10, n11, n12, n13, n14, n15⟩ := fd
      have e2 : (some (n1, n2, n3, n4, n5, n6, n8, n9, n12, n15) : FnY) = some (("__init__" : Str), d.qual, d.params, FuncBody.stmts d.body, d.scope, mainGlobals, Value.none, Value.none, (none : Option Addr), builtinsNs) := e
      simp only [Option.some.injEq, Prod.mk.injEq] at e2
      obtain ⟨h1, h2, h3, h4, h5, h6, h7, h8, h9, h10⟩ := e2
      subst h1 h2 h3 h4 h5 h6 h7 h8 h9 h10
      have c3' : (clB K (He.ga K d.cls) n7 && codeV P K n13 d.qual) = true := c2
      obtain ⟨k1, k2⟩ := Bool.and_eq_true_iff.mp c3'
      unfold clB at k1
      split at k1
      · rename_i y cc
        obtain ⟨k3, k4⟩ := Bool.and_eq_true_iff.mp k1
        have ey : y = "__class__" := of_decide_eq_true k3
        subst ey
        cases n13 with
        | ref cd =>
          obtain ⟨k5, k6⟩ := codeB_ok k2
          exact ⟨⟨"__init__", d.qual, d.params, d.body, d.scope, [("__class__", cc)], cd⟩, cc, oc, n10, n11, n14, od, osl, rfl, rfl, rfl, rfl, rfl, ⟨E.oex, rfl, k5, k6, cellB_ok k4, top, c3, c4, c5, c6⟩, rfl⟩
        | _ => cases k2
      · cases k1
    | _ => cases c2
theorem mkE {P : Program} {K : PySem.W.Frag} {h : Heap} {mg : Str → Option Value} {d : InD} {ok : V → Prop} (X : K.In h) (G : h.Ns mainGlobals mg) (e : fnY K d.cls = d.val) (c : supB P K d = true) (top : (P.main.scope.names.lookup ("super" : Str)).isSome = false)
    (hb : ∀ (F : NF) (doc pm ctv : Value) (us : List Value), F.name = "__init__" → F.qual = d.qual → F.params = d.params → F.body = d.body → F.scope = d.scope → us.length = 2 → bindArgs (F.fd doc pm ctv) ⟨us, []⟩ = pure ((([("self" : Str), d.fld] : List Str)).zip us))
    (hF : ∀ (F : NF) (cc : Addr) (oc doc pm ctv : Value) (od : Option Addr) (osl : Array (Option Value)) (w : World) (base : Heap), F.params = d.params → F.body = d.body → F.scope = d.scope → SupC P K (He.ga K d.cls) (He.ma K (He.ga K d.cls) "__init__") cc F →
      K.lookup (He.ma K (He.ga K d.cls) "__init__") = some ⟨oc, od, .func (F.fd doc pm ctv), osl⟩ → PySem.W.findIn K (.ref (He.ga K d.cls)) d.fld = some none → FnOk P w K mg base CX0 1 (He.ma K (He.ga K d.cls) "__init__") (F.fd doc pm ctv) ["self", d.fld] (spErr (He.ga K d.cls) d.fld ok)) :
    ∃ D : DfE P K mg d.cls d.fld ok, D.C = He.ga K d.cls := by
  obtain ⟨F, cc, oc, doc, pm, ctv, od, osl, f1, f2, f3, f4, f5, S, lk⟩ := init_at e c top
  unfold supB at c
  simp only [Bool.and_eq_true, decide_eq_true_eq] at c
  obtain ⟨c1, c2, c3, c4, c5, c6, c7, c8, c9, c10⟩ := c
  exact ⟨⟨He.ga K d.cls, He.ma K (He.ga K d.cls) "__init__", F.fd doc pm ctv, PySem.W.mg_of X G (He.eqO_ok c10), errB_ok c1, c7, c8, c9, .all fun us hl => hb F doc pm ctv us f1 f2 f3 f4 f5 hl, fun w base => hF F cc oc doc pm ctv od osl w base f3 f4 f5 S lk c9⟩, rfl⟩
/-! ### the Hook -/
def ex0B (K : PySem.W.Frag) (x : Str) : Bool := errB K (He.ga K x) && (PySem.W.excIn K (He.ga K x) He.veBase "ValueError.__new__" && He.eqO (PySem.W.nsIn K mainGlobals x) (some (some (.ref (He.ga K x)))))
/-- isinstance of an instance of x, y: b -/
def kitB (K : PySem.W.Frag) (p : Str × Str × Bool) : Bool := decide (PySem.W.kitOne K (.ref (He.ga K p.1)) (.ref (He.ga K p.2.1)) = some p.2.2)
abbrev AlX : Type := He.AlD × Bool × List FnY
/-- an own class that isinstance, == and != ask -/
structure OwnC (K : PySem.W.Frag) (C : Addr) : Prop where
  ha : PySem.W.findIn K (.ref C) "__class__" = some (some (.builtin "object.__class__"))
  hn : PySem.W.specialIn K (.builtin "object.__class__") "__get__" = some (some (.builtin "getset_descriptor.__get__"))
  ht : PySem.W.takesIn K (.builtin "object.__class__") = some true
  hm : PySem.W.mroIn K C (.type "object") = some true
  me : PySem.W.kitOne K (.ref C) (.ref C) = some true
  ne : PySem.W.findIn K (.ref C) "__ne__" = some (some (.builtin "object.__ne__"))
def ownB (K : PySem.W.Frag) (x : Str) : Bool := decide (PySem.W.findIn K (.ref (He.ga K x)) "__class__" = some (some (.builtin "object.__class__"))) && (decide (PySem.W.specialIn K (.builtin "object.__class__") "__get__" = some (some (.builtin "getset_descriptor.__get__"))) && (decide (PySem.W.takesIn K (.builtin "object.__class__") = some true) &&
  (decide (PySem.W.mroIn K (He.ga K x) (.type "object") = some true) && (decide (PySem.W.kitOne K (.ref (He.ga K x)) (.ref (He.ga K x)) = some true) && decide (PySem.W.findIn K (.ref (He.ga K x)) "__ne__" = some (some (.builtin "object.__ne__")))))))
theorem ownB_ok {K : PySem.W.Frag} {x : Str} (h : ownB K x = true) : OwnC K (He.ga K x) := by
  unfold ownB at h
  simp only [Bool.and_eq_true, decide_eq_true_eq] at h
  obtain ⟨h1, h2, h3, h4, h5, h6⟩ := h
  exact ⟨h1, h2, h3, h4, h5, h6⟩
/-- isinstance of a value of the built-in class T, y: false; y is no such class's own -/
structure KtyF (K : PySem.W.Frag) (T : String) (C : Addr) : Prop where
  no : PySem.W.kitOne K (.type T) (.ref C) = some false
  nf : PySem.W.notFirst K C (.type T) = true
def ktyB (K : PySem.W.Frag) (p : String × Str) : Bool := decide (PySem.W.kitOne K (.type p.1) (.ref (He.ga K p.2)) = some false) && PySem.W.notFirst K (He.ga K p.2) (.type p.1)
theorem ktyB_ok {K : PySem.W.Frag} {p : String × Str} (h : ktyB K p = true) : KtyF K p.1 (He.ga K p.2) := by
  unfold ktyB at h
  simp only [Bool.and_eq_true, decide_eq_true_eq] at h
  exact ⟨h.1, h.2⟩
structure Xs where
  ini : List InD := []
  ex : List Str := []
  kit : List (Str × Str × Bool) := []
  exm : List (Str × Str × Bool) := []
  own : List Str := []
  kty : List (String × Str) := []
def Xs.ok (P : Program) (x : Xs) (K : PySem.W.Frag) : Bool := x.ini.all (supB P K) && (x.ex.all (ex0B K) && (x.kit.all (kitB K) && ((x.exm.all fun p => (He.Fa.exm p.1 p.2.1 p.2.2).ok K) && (x.own.all (ownB K) && x.kty.all (ktyB K)))))
def obsX (P : Program) (fa : List He.Fa) (fn : List He.DefD) (x : Xs) (K : PySem.W.Frag) : AlX := (He.obsD fa fn K, x.ok P K, x.ini.map fun d => fnY K d.cls)
def valX (fn : List He.DefD) (x : Xs) : AlX := (He.valD fn, true, x.ini.map InD.val)
def obsXG (P : Program) (n : Nat) (fa : List He.Fa) (fn : List He.DefD) (x : Xs) (g : Addr → Option Obj) : AlX := obsX P fa fn x (He.frG g (cStatics :: He.asD g n))
def SaysX (P : Program) (fa : List He.Fa) (fn : List He.DefD) (x : Xs) (K : PySem.W.Frag) : Prop := obsX P fa fn x K = valX fn x
def hookX (P : Program) (n : Nat) (fa : List He.Fa) (fn : List He.DefD) (x : Xs) : PySem.W.Hook where
  α := AlX
  obs := fun s => obsXG P n fa fn x s.heap.get?
  val := fun _ => valX fn x
  says := fun _ h => ∃ K : PySem.W.Frag, K.In h ∧ SaysX P fa fn x K
  of := fun _ _ e => ⟨_, He.frG_in, e⟩
  keeps := fun _ _ _ ⟨K, hK, c⟩ k => ⟨K, PySem.W.Frag.In.keeps hK k, c⟩
theorem obsXG_eq {P : Program} {n : Nat} {fa : List He.Fa} {fn : List He.DefD} {x : Xs} {g : Addr → Option Obj} {s : Shared} (h : ∀ a, g a = s.heap.get? a) : obsXG P n fa fn x g = (hookX P n fa fn x).obs s := by
  have e : g = s.heap.get? := funext h
  rw [e] <;> rfl
section
variable {P : Program} {fa : List He.Fa} {fn : List He.DefD} {x : Xs} {K : PySem.W.Frag}
theorem SaysX.d (c : SaysX P fa fn x K) : He.SaysD fa fn K := congrArg (fun z : AlX => z.1) c
theorem SaysX.b (c : SaysX P fa fn x K) : x.ok P K = true := congrArg (fun z : AlX => z.2.1) c
theorem SaysX.ini (c : SaysX P fa fn x K) (i : Nat) {d : InD} (h : x.ini[i]? = some d := by rfl) : supB P K d = true ∧ fnY K d.cls = d.val := by
  obtain ⟨b, _⟩ := Bool.and_eq_true_iff.mp c.b
  refine ⟨List.all_eq_true.mp b d (List.mem_of_getElem? h), ?_⟩
  have e : x.ini.map (fun d => fnY K d.cls) = x.ini.map InD.val := congrArg (fun z : AlX => z.2.2) c
  have e2 : (x.ini.map fun d => fnY K d.cls)[i]? = (x.ini.map InD.val)[i]? := by rw [e]
  rw [List.getElem?_map, List.getElem?_map, h] at e2
  exact Option.some.inj e2
theorem SaysX.ex {h : Heap} {mg : Str → Option Value} (c : SaysX P fa fn x K) (X : K.In h) (G : h.Ns mainGlobals mg) (i : Nat) {y : Str} (hy : x.ex[i]? = some y := by rfl) : ∃ D : DfE0 K mg y, D.C = He.ga K y := by
  obtain ⟨_, b⟩ := Bool.and_eq_true_iff.mp c.b
  obtain ⟨b, _⟩ := Bool.and_eq_true_iff.mp b
  have z := List.all_eq_true.mp b y (List.mem_of_getElem? hy)
  unfold ex0B at z
  simp only [Bool.and_eq_true] at z
  exact ⟨⟨He.ga K y, PySem.W.mg_of X G (He.eqO_ok z.2.2), errB_ok z.1, z.2.1⟩, rfl⟩
theorem SaysX.kit (c : SaysX P fa fn x K) (i : Nat) {p : Str × Str × Bool} (hy : x.kit[i]? = some p := by rfl) : PySem.W.kitOne K (.ref (He.ga K p.1)) (.ref (He.ga K p.2.1)) = some p.2.2 := by
  obtain ⟨_, b⟩ := Bool.and_eq_true_iff.mp c.b
  obtain ⟨_, b⟩ := Bool.and_eq_true_iff.mp b
  obtain ⟨b, _⟩ := Bool.and_eq_true_iff.mp b
  exact of_decide_eq_true (List.all_eq_true.mp b p (List.mem_of_getElem? hy))
theorem SaysX.exm (c : SaysX P fa fn x K) (i : Nat) {p : Str × Str × Bool} (hy : x.exm[i]? = some p := by rfl) : PySem.W.exmOne K (.ref (He.ga K p.1)) (.ref (He.ga K p.2.1)) = some p.2.2 := by
  obtain ⟨_, b⟩ := Bool.and_eq_true_iff.mp c.b
  obtain ⟨_, b⟩ := Bool.and_eq_true_iff.mp b
  obtain ⟨_, b⟩ := Bool.and_eq_true_iff.mp b
  obtain ⟨b, _⟩ := Bool.and_eq_true_iff.mp b
  exact He.exm_ok (List.all_eq_true.mp b p (List.mem_of_getElem? hy))
theorem SaysX.own (c : SaysX P fa fn x K) (i : Nat) {y : Str} (hy : x.own[i]? = some y := by rfl) : OwnC K (He.ga K y) := by
  obtain ⟨_, b⟩ := Bool.and_eq_true_iff.mp c.b
  obtain ⟨_, b⟩ := Bool.and_eq_true_iff.mp b
  obtain ⟨_, b⟩ := Bool.and_eq_true_iff.mp b
  obtain ⟨_, b⟩ := Bool.and_eq_true_iff.mp b
  obtain ⟨b, _⟩ := Bool.and_eq_true_iff.mp b
  exact ownB_ok (List.all_eq_true.mp b y (List.mem_of_getElem? hy))
theorem SaysX.kty (c : SaysX P fa fn x K) (i : Nat) {p : String × Str} (hy : x.kty[i]? = some p := by rfl) : KtyF K p.1 (He.ga K p.2) := by
  obtain ⟨_, b⟩ := Bool.and_eq_true_iff.mp c.b
  obtain ⟨_, b⟩ := Bool.and_eq_true_iff.mp b
  obtain ⟨_, b⟩ := Bool.and_eq_true_iff.mp b
  obtain ⟨_, b⟩ := Bool.and_eq_true_iff.mp b
  obtain ⟨_, b⟩ := Bool.and_eq_true_iff.mp b
  exact ktyB_ok (List.all_eq_true.mp b p (List.mem_of_getElem? hy))
end
end EX
/-! The law's own def, run where nothing is being shown (no guard stands): repr of lists and tuples there. -/
namespace GA
open PySem PySem.Spec PyProof.Rows L2
/-- the def keeps its promise when the law's caller calls it -/
structure FnAt (P : Program) (w : World) (K : PySem.W.Frag) (mg : Str → Option Value) (base : Heap) (f : Addr) (fd : FuncData) (ps : List Str) (sp : Sp) : Prop where
  run : ∀ (s : Shared) (H : Hp) (args : Args) (us : List Value) (vs : List V) (Q : VK) (E : XK), Env0 P w K mg base callerA [] s H → BindsTo s fd args (ps.zip us) → Vals vs us → sp vs H Q E →
    codeAny (model P w) callerA (.call (.ref f) args) (CR CX0 [] P w H s Q E) s
section
variable {P : Program} {w : World} {K : PySem.W.Frag} {mg : Str → Option Value} {base : Heap} {x qual : Str} {params : Arguments} {body : List Stmt} {scope : Scope} {dvs : List V} {kws : List (Str × V)} {f : Addr} {fd : FuncData}
theorem okAt {N ps : List Str} {k : Nat} {sp : Sp} (F : FunD K x qual params body scope dvs kws f fd) (S : FnScope N ps scope) (hR : Room (k + 1) callerA) (len : ∀ vs H Q E, sp vs H Q E → vs.length = ps.length)
    (bd : ∀ (cdv : Value) (s : Shared) (H : Hp) (vs : List V) (Q : VK) (E : XK), Room k (callerA.deeper (envOfC qual scope s.heap.objs.size f cdv)) → sp vs H Q E →
      ∃ t, PSs (cxOf CX0 P w K mg base N qual scope f cdv callerA [] s H E) body t ∧ t { nx := fun _ H' => Q .non H', rt := Q } (start N vs) H) : FnAt P w K mg base f fd ps sp := by
  obtain ⟨oc, od, dV, kV, doc, pm, an, cdv, ct, osl, rfl, lk, hcd, _, _⟩ := F.ex
  refine ⟨fun s H args us vs Q E e0 hb r hsp => ?_⟩
  have vl := len _ _ _ _ hsp
  have kx : K.In s.heap := e0.mod.kin.keeps fun b o e => (e0.bs b o e).1
  have nl : s.heap.NoLimit := e0.mod.nolimit.keeps fun b o e => (e0.bs b o e).1
  have kinds : ∀ y ∈ ps.zip us, scope.names.lookup y.1 = some .local ∨ (scope.names.lookup y.1 = some .cell ∧ ((cellsFrom (s.heap.objs.size + 1) scope.names []).lookup y.1).isSome = true) := by
    rintro ⟨y1, y2⟩ hy
    rcases S.par y1 (List.of_mem_zip hy).1 with q | q
    · left; exact q
    · right; exact ⟨q, PySem.W.cellsFrom_some _ _ _ (.inl q)⟩
  refine codeAny_call_function hR.depth (kx _ _ lk) rfl S.co S.gen rfl (PySem.W.codeRec_of kx hcd) (hb _ _ _ _ ?_)
  refine wpAny_newFunctionEnv_cells S.kind kinds fun env ee s1 ic => ?_
  subst ee
  refine ⟨nl.keeps ic.toInCall.keep, codeAny_func ?_⟩
  obtain ⟨t, pt, rd⟩ := bd cdv s H vs Q E (hR.deeper _) hsp
  have iv : L2.Inv (cxOf CX0 P w K mg base N qual scope f cdv callerA [] s H E) [] (start N vs) H s1 := inv_start S hR.hd e0 vl r ic
  refine wpAny_mono (pt.run [] s1 (start N vs) H _ iv rd) (fun fl s2 q => ?_) fun e s2 q => q
  have out : ∀ {σ2 : L2.St} {H2 : Hp} {a : V} {u : Value}, L2.Inv (cxOf CX0 P w K mg base N qual scope f cdv callerA [] s H E) [] σ2 H2 s2 → RelV a u → Q a H2 → CE [] P w H s Q u s2 := by
    intro σ2 H2 a u J ra qa
    exact ⟨a, H2, J.os, J.bare, J.base, J.hok, ra, qa⟩
  cases fl with
  | ret u =>
    obtain ⟨a, σ2, H2, J, ra, qa⟩ := q
    exact out J ra qa
  | next =>
    obtain ⟨σ2, H2, J, qa⟩ := q
    exact out (a := V.non) (u := Value.none) J rfl qa
  | brk =>
    obtain ⟨_, _, _, z⟩ := q
    exact z.elim
  | cont =>
    obtain ⟨_, _, _, z⟩ := q
    exact z.elim
end
/-- the law's call -/
theorem lawAt {P : Program} {w : World} {K : PySem.W.Frag} {mg mb : Str → Option Value} {fa a : Addr} {fd : FuncData} {x : Str} {sp : Sp} {s₁ : Shared} {vs : List Value} {ns : List Int}
    (kx : K.In s₁.heap) (hn : s₁.heap.Ns mainGlobals mg) (hb : s₁.heap.Ns builtinsNs mb) (hbb : ∀ y : Str, y ≠ "__name__" → mb y = bootBuiltins y) (lim : s₁.heap.NoLimit) (hg : s₁.gens = #[])
    (ha : s₁.heap.get? a = some { cls := .type "list", data := .seq vs.toArray }) (hi : IntsAre vs ns) (hl : ns.length ≤ sizeLine)
    (F : ∀ base : Heap, K.In base → base.Ns mainGlobals mg → FnAt P w K mg base fa fd [x] sp) (bd : ∀ (s : Shared) (u : Value), BindsTo s fd ⟨[u], []⟩ [(x, u)])
    (hsp : ∀ H : Hp, Only H → SqL K H a (ns.map V.int) → sp [.ref a] H (fun v _ => v = .bl true) fun _ _ _ => False) :
    codeAny (model P w) callerA (.call (.ref fa) ⟨[.ref a], []⟩) (fun r s' => r = .ok (.ret (.bool true)) ∧ OldK s₁.heap s'.heap ∧ s'.os = s₁.os ∧ AllBare s'.gens) s₁ := by
  have rel := vals_ints hi
  have lenV := hi.length
  have main : ∀ H : Hp, Only H → SqL K H a (ns.map V.int) → HOk P w H s₁.heap → (∀ b, H b ≠ none → b = a) → (H a ≠ none → K.lookup a = none) →
      codeAny (model P w) callerA (.call (.ref fa) ⟨[.ref a], []⟩) (fun r s' => r = .ok (.ret (.bool true)) ∧ OldK s₁.heap s'.heap ∧ s'.os = s₁.os ∧ AllBare s'.gens) s₁ := by
    intro H only sq ok onlyA notK
    have low : ∀ {b : Addr} {o : Obj}, s₁.heap.get? b = some o → H b = none → (hidT s₁.heap H).get? b = some o := fun e z => hidT_get e z
    have noD : ∀ {b : Addr} {o : Obj} {es : Array DictEntry} {ep : Nat}, s₁.heap.get? b = some o → o.data = .dict es ep → H b = none := by
      intro b o es ep e d
      cases q : H b with
      | none => rfl
      | some u =>
        have eb := onlyA b (by rw [q]; simp)
        subst eb
        rw [ha] at e
        cases e
        cases (show Data.seq vs.toArray _ = Data.dict es ep from d)
    have nsL : ∀ {b : Addr} {m : Str → Option Value}, s₁.heap.Ns b m → (hidT s₁.heap H).Ns b m := by
      rintro b m ⟨o, es, ep, e, d, r⟩
      exact ⟨o, es, ep, low e (noD e d), d, r⟩
    have kb : K.In (hidT s₁.heap H) := fun b o e => low (kx b o e) (by
      cases q : H b with
      | none => rfl
      | some u =>
        have eb := onlyA b (by rw [q]; simp)
        subst eb
        have z := notK (by rw [q]; simp)
        rw [z] at e
        cases e)
    have hM : Mod K mg (hidT s₁.heap H) := ⟨kb, nsL hn, ⟨mb, nsL hb, hbb⟩, by
      obtain ⟨mc, z1, z2⟩ := lim
      exact ⟨mc, nsL z1, z2⟩⟩
    have e0 : Env0 P w K mg (hidT s₁.heap H) callerA [] s₁ H := ⟨rfl, hM, fun b o e => of_hidT e, Nat.le_of_eq (hidT_size _ _), trivial, fun b q => absurd (show b ∈ ([] : List Addr) from q) (by simp), ok, .of_eq hg⟩
    refine codeAny_mono ((F _ kb (nsL hn)).run s₁ H ⟨[.ref a], []⟩ [.ref a] [.ref a] _ _ e0 (bd s₁ (.ref a)) (.cons rfl .nil) (hsp H only sq)) fun r s2 h => ?_
    cases r with
    | error e => exact (show False from h).elim
    | ok fl =>
      cases fl with
      | next => exact (show False from h).elim
      | brk => exact (show False from h).elim
      | cont => exact (show False from h).elim
      | ret u =>
        obtain ⟨v, H2, os, bare, un, ok2, rv, qv⟩ := h
        obtain rfl : v = .bl true := qv
        obtain rfl : u = Value.bool true := rv
        refine ⟨rfl, OldK.of_keep fun b o e => ?_, os, bare⟩
        cases q : H b with
        | none => exact un.keep b o e q (fun z => absurd (show b ∈ ([] : List Addr) from z) (by simp)) (by simp)
        | some u =>
          rcases only b with z | ⟨ob, xs, z⟩
          · rw [q] at z
            cases z
          · have z2 := un.frzs b ob _ z
            obtain ⟨e1, _⟩ := ok b _ z
            obtain ⟨e2, _⟩ := ok2 b _ z2
            rw [e] at e1
            cases e1
            exact e2
  cases hk : K.lookup a with
  | some o =>
    have e := kx a o hk
    rw [ha] at e
    cases e
    exact main (fun _ => none) (fun _ => .inl rfl) (.inr ⟨_, vs.toArray, _, hk, rfl, rfl, rfl, by rw [List.size_toArray, lenV]; exact hl, by simpa using rel⟩) (fun b u z => by cases (show (none : Option HO) = some u from z)) (fun b z => absurd rfl z) fun z => absurd rfl z
  | none =>
    refine main (fun b => if b = a then some (.frz { cls := .type "list", data := .seq vs.toArray } (.lst (ns.map V.int))) else none) (fun b => ?_) (.inl (.inr ⟨{ cls := .type "list", data := .seq vs.toArray }, if_pos rfl⟩)) (fun b u z => ?_) (fun b z => ?_) fun _ => hk
    · by_cases c : b = a
      · exact .inr ⟨_, _, if_pos c⟩
      · exact .inl (if_neg c)
    · by_cases c : b = a
      · have y := (if_pos c).symm.trans z
        cases y
        subst c
        exact ⟨ha, by rw [List.length_map]; exact hl, vs, _, rel, ha⟩
      · have y := (if_neg c).symm.trans z
        cases y
    · by_cases c : b = a
      · exact c
      · exact absurd (if_neg c) z
/-- the end of a law by such a promise -/
theorem walkAt {l : PySem.W.OpenLaw} {n : Nat} {q : Program} {loose : List Str} {XP : (Str → Option Value) → Heap → Prop} {YP : World → Heap → Prop} {d : DefRec} {x : Str}
    (hn : l.most = some n) (hn2 : n ≤ sizeLine) (hdf : d.params.defaults = [])
    (F : ∀ (w : World) (mg : Str → Option Value) (fa : Addr) (h : Heap), YP w h → h.Ns mainGlobals mg → mg d.name = some (.ref fa) →
      ∃ (K : PySem.W.Frag) (fd : FuncData) (sp : Sp), K.In h ∧ (∀ (s : Shared) (u : Value), BindsTo s fd ⟨[u], []⟩ [(x, u)]) ∧
        (∀ (H : Hp) (a : Addr) (ns : List Int), ns.length ≤ n → Only H → SqL K H a (ns.map V.int) → sp [.ref a] H (fun v _ => v = .bl true) fun _ _ _ => False) ∧
        ∀ base : Heap, K.In base → base.Ns mainGlobals mg → FnAt l.prog w K mg base fa fd [x] sp) :
    PySem.W.WalkO q loose XP YP l.row.toRowW d [] (fun f vs => PySem.call f vs) := by
  refine Att.attach_call hn hdf fun w s₀ s₁ mg mb fa o pm cd doc a vs ns G Y ho hd hcd hmg hobj hints hlen hg => ?_
  obtain ⟨K, fd, sp, kx, hb, hsp, hF⟩ := F w mg fa _ Y G.T.g hmg
  exact lawAt kx G.T.g G.T.b G.T.builtins G.T.nolimit hg hobj hints (Nat.le_trans hlen hn2) hF hb fun H only sq => hsp H a ns hlen only sq
/-! ### repr of what is read as data -/
section
variable {X : Cx}
theorem cr_reprD (hg : X.A.guards = some []) (hu : X.A.units + 66 < cLine) : CallR X (.builtin "repr") (fun xs H Q => ∃ (a : Addr) (d : PyData), xs = [.ref a] ∧ Dp X.K H (.ref a) d ∧ d.showable = true ∧ d.hasDict = false ∧ d.depth ≤ 64 ∧ d.shown.length ≤ sizeLine ∧ Q (.str d.shown) H) := by
  intro pins s σ H xs us Q I r h
  obtain ⟨a, d, rfl, hd, sh, nd, dp, sz, q⟩ := h
  rw [Vals.ref1 r]
  obtain ⟨as, rd⟩ := Dp.reads I d _ _ hd rfl
  refine repr_of_reads' rd sh (fun z => by rw [nd] at z; cases z) hg (by omega) (fun b o e => e) (fun h' u tk kp => ?_) sz
  exact ⟨.str d.shown, H, I.kept (t' := tk) kp, ⟨_, rfl⟩, q⟩
theorem cr_reprN : CallR X (.builtin "repr") (fun xs H Q => xs = [.non] ∧ Q (.str "None") H) := by
  intro pins s σ H xs us Q I r h
  obtain ⟨rfl, q⟩ := h
  obtain ⟨u, rfl, ru⟩ := vals1 r
  cases ru
  exact PySem.P.repr_of_none ⟨.str _, H, I.tok _, ⟨_, rfl⟩, q⟩
end
end GA
/-! sorted(xs, key=len) of a list of texts -/
namespace SL
open PySem PySem.Spec PyProof.Rows L2 PySem.W
def leLen : Str → Str → Bool := dataLe false fun x : Str => PyData.int (x.length : Int)
def byLen (xs : List Str) : List Str := xs.mergeSort leLen
def TxtV (v : Value) (x : Str) : Prop := ∃ t, v = Value.str x t
theorem each_of : ∀ {us : List Value} {xs : List Str}, StrsAre us xs → EachIs TxtV us xs
  | _, _, .nil => .nil
  | _, _, .cons n t r => .cons ⟨t, rfl⟩ (each_of r)
theorem vals_of : ∀ {us : List Value} {xs : List Str}, EachIs TxtV us xs → Vals (xs.map V.str) us
  | _, _, .nil => .nil
  | _, _, .cons h r => .cons h (vals_of r)
def tSortLen (K : PySem.W.Frag) (t : TA) : TE := fun σ H Q => t σ H fun vs H1 => ∃ (l : Addr) (xs : List Str), vs = [.ref l] ∧ SqL K H1 l (xs.map V.str) ∧ (∀ x ∈ xs, x.length ≤ sizeLine) ∧ xs.length ≤ sizeLine ∧ ∀ p, H1 p = none → Q (.ref p) (upd H1 p (.lst ((byLen xs).map V.str)))
section
variable {X : Cx} {p p2 pos kpos : Pos} {e : Expr} {t : TA}
theorem pe_sortedLen (hu : X.A.units + 66 < cLine) (hgs : Gl X "sorted") (hms : X.mg "sorted" = none) (hgl : Gl X "len") (hml : X.mg "len" = none) (ha : PA X [e] t)
    (he : backTo pos (starEach [e] X.env) = (false, eval e X.env) :: backTo pos (starEach [] X.env) := by rfl) (hpl : (backTo pos (starEach [e] X.env)).any (·.1) = false := by rfl) :
    PE X (.Call (.Name "sorted" p) [e] [⟨some "key", .Name "len" p2, kpos⟩] pos) (tSortLen X.K t) := by
  refine ⟨fun pins s σ H Q I h => ?_⟩
  refine wpAny_Call_Name_kw (ld_blt I hgs hms (u := .builtin "sorted") (by decide +kernel) ?_)
  refine PyProof.Rows.callWith_kw (thn (ha.run pos pins s σ H _ I h) fun us s1 ⟨vs, H1, I1, r1, q1⟩ => ?_) he hpl (by rfl) (by rfl)
  show wpAny _ _ (evalAll [do let v ← eval (.Name "len" p2) X.env; standAt pos; pure v]) _ _ s1
  refine wpAny_evalAll_cons (wpAny_bind (ld_blt I1 hgl hml PySem.boot_len (wpAny_bind (wpAny_standAt (wpAny_pure (wpAny_evalAll_nil ?_))))))
  obtain ⟨l, xs, rfl, hs, hx, hL, q⟩ := q1
  obtain ⟨its, rv, hl, _⟩ := I1.list hs
  rw [Vals.ref1 r1]
  show wpAny _ _ (call (.builtin "sorted") [.ref l] [(Str.ofString "key", .builtin "len")]) _ _ _
  have ei := each_of rv.strs
  refine sorted_key_data (b := false) (fun x : Str => PyData.int (x.length : Int)) hl.isList ei ?_ ?_ hL (fun x _ => ?_) (ksk_s1 _ _) (fun _ => ksk_l1 _ _) (fun _ => ksk_t4 _ _) (fun v x hR hm h tk kp => ?_) fun out c h' tk kp _ hD hlen eo => ?_
  · intro d hd d' hd'
    obtain ⟨a, _, rfl⟩ := List.mem_map.mp hd
    obtain ⟨b, _, rfl⟩ := List.mem_map.mp hd'
    simp [alike]
  · refine .inr fun d hd => ?_
    obtain ⟨a, _, rfl⟩ := List.mem_map.mp hd
    exact ⟨by simp, fun ys => by simp⟩
  · show _ + 2 + (PyData.int _).depth < _
    simp only [PyData.depth]
    omega
  · obtain ⟨u, rfl⟩ := hR
    have hn := line63
    have hxl := hx x hm
    exact len_str (by omega) ⟨h, _, rfl, fun b o q => q, .int _ _⟩
  · have hn : H1 (s1.heap.objs.size + 1) = none := I1.hok.fresh (Nat.le_succ _)
    have bl : ((byLen xs).map V.str).length ≤ sizeLine := by
      rw [List.length_map]
      unfold byLen
      rw [List.length_mergeSort]
      exact hL
    refine ⟨.ref _, upd H1 (s1.heap.objs.size + 1) (.lst ((byLen xs).map V.str)), I1.laid (t' := tk) kp (Nat.le_succ _) ⟨bl, out, c, vals_of eo, hD⟩, rfl, q _ hn⟩
end
end SL
/-! tuple * 1, tuple * more -/
namespace TM
open PySem PySem.Spec PyProof.Rows L2
theorem tuple_mul1 (l : Addr) (items : Array Value) (n : Nat) (dd : Option Addr) (sl : Array (Option Value)) (u : Tok) :
    Meets (Builtin.«tuple.__mul__» ⟨[.ref l, .int 1 u], []⟩) (fun _ R s => s.heap.get? l = some { cls := .type "tuple", dict := dd, data := .seq items n, slots := sl } ∧ R (.ok (.ret (Value.ref l))) s) :=
  .of_wp fun prog w A R s h => by
    obtain ⟨hp, g, d, tk, os⟩ := s
    obtain ⟨hl, h⟩ := h
    have f1 := AutoSeq1.idx_int
    wp_walk using wpAny_loadPart' hl
    exact ⟨_, rfl, h⟩
section
variable {X : Cx}
def rRep (K : PySem.W.Frag) : R2 := fun x y H Q => ∃ l k xs, x = .ref l ∧ y = .int k ∧ SqT K H l xs ∧ xs ≠ [] ∧ 1 ≤ k ∧ k ≤ 1000 ∧ xs.length ≤ 1000 ∧ (k = 1 → Q (.ref l) H) ∧ (2 ≤ k → ∀ p, H p = none → Q (.ref p) (upd H p (.tup (List.replicate k.toNat xs).flatten)))
theorem op_rep : OpR X (binaryOp .Mult) (rRep X.K) := by
  intro pins s σ H x y v u Q I rx ry h
  obtain ⟨l, k, xs, rfl, rfl, hT, hne, h1, h2, hz, q1, q2⟩ := h
  by_cases e : k = 1
  · subst e
    cases rx
    obtain ⟨t, rfl⟩ := ry
    obtain ⟨its, r, ⟨⟨cls, dd, data, sl⟩, ho, hc, n, hd⟩, hs⟩ := I.tuple hT
    simp only at hc hd
    subst hc hd
    refine wpAny_binaryOp_repeat_ref (T := "tuple") (U := "int") (by decide) ⟨_, ho, rfl⟩ (fun s' => typeIs_int s' 1 t) noFill_tuple_mul F.fills_int_mul F.slot_int_rmul repeat_tuple F.slot_int_index.lookup
      (call_meets F.slot_int_rmul (typeIs_int s 1 t) F.entry_int_rmul (F.args_int_rmul_2 _ _) (int_rmul_tuple 1 t l its.toArray n dd sl)
        ⟨ho, rfl, ⟨_, ho, rfl⟩, call_meets F.slot_tuple_mul ⟨_, ho, rfl⟩ F.entry_tuple_mul (F.args_tuple_mul_2 _ _) (tuple_mul1 l its.toArray n dd sl t) ⟨ho, ?_⟩⟩)
    exact ⟨.ref l, H, I, rfl, q1 rfl⟩
  · exact op_repT pins s σ H _ _ v u Q I rx ry ⟨l, k, xs, rfl, rfl, hT, hne, by omega, h2, hz, q2 (by omega)⟩
end
end TM
/-! tuple * 0 -/
namespace TM
open PySem PySem.Spec PyProof.Rows L2
theorem tuple_mul0 (l : Addr) (items : Array Value) (n : Nat) (dd : Option Addr) (sl : Array (Option Value)) (u : Tok) (hn : items.isEmpty = false) :
    Meets (Builtin.«tuple.__mul__» ⟨[.ref l, .int 0 u], []⟩) (fun _ R s => s.heap.get? l = some { cls := .type "tuple", dict := dd, data := .seq items n, slots := sl } ∧ R (.ok (.ret (Value.ref s.heap.objs.size))) { s with heap := s.heap.push { cls := Value.type "tuple", data := Data.seq #[] }, toks := s.toks }) :=
  .of_wp fun prog w A R s h => by
    obtain ⟨hp, g, d, tk, os⟩ := s
    obtain ⟨hl, h⟩ := h
    have f1 := AutoSeq1.idx_int
    wp_walk using wpAny_loadPart' hl
    exact ⟨_, rfl, h⟩
section
variable {X : Cx}
/-- a tuple times an int that is not negative -/
def rRepA (K : PySem.W.Frag) : R2 := fun x y H Q => ∃ l k xs, x = .ref l ∧ y = .int k ∧ SqT K H l xs ∧ xs ≠ [] ∧ 0 ≤ k ∧ k ≤ 1000 ∧ xs.length ≤ 1000 ∧ ∀ H' p, (∀ b o, H b = some o → H' b = some o) → SqT K H' p (List.replicate k.toNat xs).flatten → Q (.ref p) H'
theorem op_repA : OpR X (binaryOp .Mult) (rRepA X.K) := by
  intro pins s σ H x y v u Q I rx ry h
  obtain ⟨l, k, xs, rfl, rfl, hT, hne, h1, h2, hz, q⟩ := h
  have sm : ∀ {p : Addr} {o : HO}, H p = none → ∀ b o', H b = some o' → upd H p o b = some o' := fun {p o} hp b o' e => by
    rw [upd_ne (fun z => by rw [z, hp] at e; cases e)]
    exact e
  by_cases e : k = 0
  · subst e
    cases rx
    obtain ⟨t, rfl⟩ := ry
    obtain ⟨its, r, ⟨⟨cls, dd, data, sl⟩, ho, hc, n, hd⟩, hs⟩ := I.tuple hT
    simp only at hc hd
    subst hc hd
    have hn : its.toArray.isEmpty = false := by
      cases its with
      | nil =>
        cases r
        exact absurd rfl hne
      | cons a b => rfl
    refine wpAny_binaryOp_repeat_ref (T := "tuple") (U := "int") (by decide) ⟨_, ho, rfl⟩ (fun s' => typeIs_int s' 0 t) noFill_tuple_mul F.fills_int_mul F.slot_int_rmul repeat_tuple F.slot_int_index.lookup
      (call_meets F.slot_int_rmul (typeIs_int s 0 t) F.entry_int_rmul (F.args_int_rmul_2 _ _) (int_rmul_tuple 0 t l its.toArray n dd sl)
        ⟨ho, rfl, ⟨_, ho, rfl⟩, call_meets F.slot_tuple_mul ⟨_, ho, rfl⟩ F.entry_tuple_mul (F.args_tuple_mul_2 _ _) (tuple_mul0 l its.toArray n dd sl t hn) ⟨ho, ?_⟩⟩)
    refine ⟨.ref s.heap.objs.size, _, I.laid (t' := s.toks) (o := .tup []) (fun b ob q => Heap.get?_push_of_some _ q) (Nat.le_refl _) ?_, rfl, q _ _ (sm (I.hok.fresh (Nat.le_refl _))) (SqT.of upd_same)⟩
    exact ⟨Nat.zero_le _, [], .nil, IsTup.new _ _⟩
  · refine op_rep pins s σ H _ _ v u Q I rx ry ⟨l, k, xs, rfl, rfl, hT, hne, by omega, h2, hz, fun e => ?_, fun e p hp => q _ _ (sm hp) (SqT.of upd_same)⟩
    subst e
    have e1 : (List.replicate (1 : Int).toNat xs).flatten = xs := by simp
    exact q H l (fun _ _ h => h) (by rw [e1]; exact hT)
end
end TM
/-! sorted(set of texts), sorted(list of texts) of any length -/
namespace TXB
open PySem PySem.Spec PyProof.Rows L2 PySem.W
set_option autoImplicit false
def leS : Str → Str → Bool := dataLe false fun x : Str => PyData.str x
def TxtV (v : Value) (x : Str) : Prop := ∃ t, v = Value.str x t
theorem each_of : ∀ {us : List Value} {xs : List Str}, StrsAre us xs → EachIs TxtV us xs
  | _, _, .nil => .nil
  | _, _, .cons n t r => .cons ⟨t, rfl⟩ (each_of r)
theorem strs_of : ∀ {us : List Value} {xs : List Str}, EachIs TxtV us xs → StrsAre us xs
  | _, _, .nil => .nil
  | _, _, .cons ⟨t, rfl⟩ r => .cons _ t (strs_of r)
theorem vals_of : ∀ {us : List Value} {xs : List Str}, EachIs TxtV us xs → Vals (xs.map V.str) us
  | _, _, .nil => .nil
  | _, _, .cons h r => .cons h (vals_of r)
theorem reads_of {h : Heap} : ∀ {us : List Value} {xs : List Str}, EachIs TxtV us xs → EachIs (fun v x => ∃ as, Reads h v (PyData.str x) as) us xs
  | _, _, .nil => .nil
  | _, _, .cons ⟨t, rfl⟩ r => .cons ⟨[], .str _ t⟩ (reads_of r)
theorem al_strs (xs : List Str) : AllAlike (xs.map fun x => PyData.str x) := by
  intro d hd d' hd'
  obtain ⟨a, _, rfl⟩ := List.mem_map.mp hd
  obtain ⟨b, _, rfl⟩ := List.mem_map.mp hd'
  simp [alike]
theorem so_strs (xs : List Str) : Sortable (xs.map fun x => PyData.str x) := by
  refine .inr fun d hd => ?_
  obtain ⟨a, _, rfl⟩ := List.mem_map.mp hd
  exact ⟨by simp, fun ys => by simp⟩
theorem leS_iff {a b : Str} : leS a b = true ↔ a.cps.toList ≤ b.cps.toList := by
  unfold leS
  rw [dataLe_str fun x : Str => x]
  exact decide_eq_true_iff
theorem ms_perm (xs : List Str) : (xs.mergeSort leS).Perm xs := List.mergeSort_perm xs leS
theorem ms_sorted (xs : List Str) : sortedS (xs.mergeSort leS) = true := by
  refine sortedS_of_pairwise _ ?_
  have h := List.pairwise_mergeSort (le := leS) (fun a b c h1 h2 => leS_iff.mpr (List.le_trans (leS_iff.mp h1) (leS_iff.mp h2))) (fun a b => by
    rw [Bool.or_eq_true, leS_iff, leS_iff]
    exact List.le_total _ _) xs
  refine h.imp fun {a b} hab => ?_
  rw [ltCps_eq]
  exact decide_eq_false (List.not_lt.mpr (leS_iff.mp hab))
section
variable {P : Program} {w : World} {A : Around} {E : Value → Shared → Prop} {s : Shared}
open TX in
theorem sorted_atB {a : Addr} {l : List Str} {Q : Value → Shared → Prop} (R : At P w s.heap a l) (hh : A.handled = none) (hsb : l.length < scanBound) (hu : A.units + 4 < cLine)
    (hQ : ∀ s' p (out : Array Value) (c : Nat) (ys : List Str), (∀ b o, s.heap.get? b = some o → s'.heap.get? b = some o) → s'.gens = s.gens → s'.os = s.os → s.heap.objs.size ≤ p →
      s'.heap.get? p = some (seqObj "list" out c) → StrsAre out.toList ys → ys.Perm l → sortedS ys = true → Q (.ref p) s') :
    wpAny (model P w) A (call (.builtin "sorted") [.ref a]) Q E s := by
  obtain ⟨⟨es, ep, t⟩, ho, ok⟩ := R
  have ft : t.fits es.size = true := ok.tx.fit
  have z : es.size = l.length := ok.tx.sz
  have sb : es.size < scanBound := by omega
  refine Calls.call_function_entry kind_sorted plain_sorted entry_sorted (args_sorted1 _) ?_
  unfold Builtin.«sorted»
  refine wpAny_bind (m := checkCount "sorted" 1 1 _) (wpAny_pure ?_)
  refine wpAny_bind (collect_set (A := A.in1) hh ⟨_, ho, rfl, rfl⟩ ft sb ok.up ok.led fun s1 vs k1 hz g1 o1 pm => ?_)
  obtain ⟨ks, hS, mem, hlen⟩ := texts_of ok.tx.el vs fun v hv => pm.mem_iff.mp hv
  have vl : vs.length = l.length := by rw [pm.length_eq, List.length_map, Array.length_toList]; exact z
  have pk : ks.Perm l := perm_of_sub l ks ok.nd (fun k hk => by
    obtain ⟨e, he, q⟩ := (ok.tx.mem k).mp hk
    exact (mem k).mpr ⟨e.2, pm.mem_iff.mpr (List.mem_map.mpr ⟨e, he, rfl⟩), q⟩) (by omega)
  have szl : vs.length ≤ sizeLine := by
    rw [vl, sizeLine_eq]
    unfold scanBound at hsb
    omega
  refine wpAny_bind (wpAny_newList ?_ szl)
  have hoL : (s1.heap.push (seqObj "list" vs.toArray 0)).get? s1.heap.objs.size = some (seqObj "list" vs.toArray 0) := Heap.get?_push_size _ rfl
  have ei := each_of hS
  have un : ∀ d, d ∈ ks.map (fun x => PyData.str x) → A.in1.in1.units + d.depth < cLine := fun d hd => by
    obtain ⟨b, _, rfl⟩ := List.mem_map.mp hd
    have u1 : A.in1.in1.units ≤ A.units + 2 := by first | exact Nat.le_refl _ | simp [Around.in1]
    simp only [PyData.depth]
    omega
  have er : EachIs (fun v x => ∃ as, Reads (sortingHeap (s1.heap.push (seqObj "list" vs.toArray 0)) s1.heap.objs.size vs) v (PyData.str x) as) vs ks := reads_of ei
  refine wpAny_bind (wpAny_holding (wpAny_call_entry slot_list_sort ⟨_, hoL, rfl⟩ entry_list_sort
    (list_sort_vals (s := { s1 with heap := s1.heap.push (seqObj "list" vs.toArray 0) }) hoL (SortsAt.data (s := { s1 with heap := sortingHeap (s1.heap.push (seqObj "list" vs.toArray 0)) s1.heap.objs.size vs }) (each_map (R := fun v x => ∃ as, Reads (sortingHeap (s1.heap.push (seqObj "list" vs.toArray 0)) s1.heap.objs.size vs) v x as) (fun x : Str => PyData.str x) er) (al_strs ks) (so_strs ks) un) szl ?_) (args_list_sort _)))
  have eo := sortVals_data false ei er (al_strs ks)
  generalize sortVals (dataKind (sortingHeap (s1.heap.push (seqObj "list" vs.toArray 0)) s1.heap.objs.size vs) (ks.map fun x => PyData.str x)) false vs vs = out at eo ⊢
  obtain ⟨c, hc⟩ := sortedHeap_at (vs := vs) (out := out.toArray) hoL
  refine ⟨_, rfl, wpAny_pure ⟨_, rfl, hQ _ s1.heap.objs.size _ c (ks.mergeSort leS) (fun b u e => ?_) g1 o1 hz hc (strs_of eo) ((ms_perm ks).trans pk) (ms_sorted ks)⟩⟩
  have q := k1 b u e
  have lt := Heap.lt_size q
  show (sortedHeap (s1.heap.push (seqObj "list" vs.toArray 0)) s1.heap.objs.size vs _).get? b = some u
  rw [sortedHeap_old (Nat.ne_of_lt lt) (by rw [Heap.size_push]; exact Nat.lt_succ_of_lt lt)]
  exact Heap.get?_push_of_some _ q
end
section
variable {X : Cx}
/-- sorted(set of texts): of any length -/
def rSortTx (P : Program) (w : World) : List V → Hp → VK → Prop := fun vs H Q => ∃ (a : Addr) (l : List Str), vs = [V.ref a] ∧ H a = some (TX.SetTx P w a l) ∧ l.length < scanBound ∧
  ∀ (ys : List Str) (p : Addr), ys.Perm l → sortedS ys = true → H p = none → Q (.ref p) (upd H p (.lst (ys.map V.str)))
theorem cr_sortTx (hc : X.calm = true) (hu : X.A.units + 66 < cLine) : CallR X (.builtin "sorted") (rSortTx X.prog X.w) := by
  intro pins s σ H vs us Q I r h
  obtain ⟨a, l, rfl, ha, hsb, q⟩ := h
  have R : TX.At X.prog X.w s.heap a l := (I.hok a _ ha).1
  rw [Vals.ref1 r]
  refine sorted_atB R (I.ok.hd hc) hsb (by omega) fun s' p out c ys k g o hp hg hi pm so => ?_
  have hlen : (ys.map V.str).length ≤ sizeLine := by
    rw [List.length_map, pm.length_eq, sizeLine_eq]
    unfold scanBound at hsb
    omega
  have hn : H p = none := I.hok.fresh hp
  have J : Inv X pins σ (upd H p (.lst (ys.map V.str))) { s with heap := s'.heap, gens := s'.gens, drawn := s'.drawn, toks := s'.toks } :=
    I.call (ch := []) (Un.laid k hp hn) (I.hok.laid k hp ⟨hlen, out.toList, c, vals_of_strs hi, hg⟩) (by rw [g]; exact I.bare) (fun _ z => nomatch z)
  have e : s' = { s with heap := s'.heap, gens := s'.gens, drawn := s'.drawn, toks := s'.toks } := by
    cases s'
    cases s
    cases o
    rfl
  rw [e]
  exact ⟨.ref p, _, J, rfl, q ys p pm so hn⟩
/-- sorted(xs), xs a list of texts of any length -/
def rSortedS (K : PySem.W.Frag) : List V → Hp → VK → Prop := fun vs H Q => ∃ (a : Addr) (xs : List Str), vs = [V.ref a] ∧ SqL K H a (xs.map V.str) ∧ xs.length ≤ sizeLine ∧
  ∀ (ys : List Str) (p : Addr), ys.Perm xs → sortedS ys = true → H p = none → Q (.ref p) (upd H p (.lst (ys.map V.str)))
theorem cr_sortedS (hu : X.A.units + 66 < cLine) : CallR X (.builtin "sorted") (rSortedS X.K) := by
  intro pins s σ H vs us Q I r h
  obtain ⟨a, xs, rfl, hs, hL, q⟩ := h
  obtain ⟨its, rv, hl, _⟩ := I.list hs
  rw [Vals.ref1 r]
  have ei := each_of rv.strs
  refine sorted_data (enc := fun x : Str => PyData.str x) hl.isList ei (reads_of ei) (al_strs xs) (so_strs xs) hL (fun b _ => ?_) fun out hlen eo => ?_
  · show _ + 2 + (PyData.str _).depth < _
    simp only [PyData.depth]
    omega
  · obtain ⟨c, hc⟩ := sortedAll_at s.heap its out.toArray
    have hn : H (s.heap.objs.size + 1) = none := I.hok.fresh (Nat.le_succ _)
    refine ⟨.ref _, upd H (s.heap.objs.size + 1) (.lst ((xs.mergeSort leS).map V.str)), I.laid (t' := s.toks) (fun _ _ => sortedAll_old) (Nat.le_succ _) ⟨?_, out, c, vals_of eo, hc⟩, rfl, q _ _ (ms_perm xs) (ms_sorted xs) hn⟩
    rw [List.length_map, List.length_mergeSort]
    exact hL
end
end TXB
namespace DW
open PySem PySem.Spec PyProof.Rows L2
/-! ### a def that stands in the module -/
structure Df (K : PySem.W.Frag) (mg : Str → Option Value) (x : Str) (st : Stmt) (ps : List Str) where
  f : Addr
  fd : FuncData
  F : FunD K x x (defArgs st) (defBody st) (defScope st) [] [] f fd
  g : mg x = some (.ref f)
  b : Binds K fd ps []
/-! ### heaps: all but the tape stays -/
structure Kp (t : Addr) (H H' : Hp) : Prop where
  old : ∃ kvs, H t = some (.dK kvs)
  new : ∃ kvs, H' t = some (.dK kvs)
  oth : ∀ b o, b ≠ t → H b = some o → H' b = some o
theorem Kp.trans {t : Addr} {H H1 H2 : Hp} (a : Kp t H H1) (b : Kp t H1 H2) : Kp t H H2 := ⟨a.old, b.new, fun c o n e => b.oth c o n (a.oth c o n e)⟩
theorem Kp.of {t : Addr} {H H' : Hp} {kvs : List (Key × V)} (e : H t = some (.dK kvs)) (s : Same H H') : Kp t H H' := ⟨⟨_, e⟩, ⟨_, s _ _ e⟩, fun b o _ h => s b o h⟩
theorem Kp.at {t b : Addr} {H H' : Hp} {o : HO} (k : Kp t H H') (h : H b = some o) (n : ∀ kvs, o ≠ .dK kvs) : H' b = some o := by
  obtain ⟨kvs, e⟩ := k.old
  exact k.oth b o (fun z => by
    subst z
    rw [e] at h
    exact n kvs (Option.some.inj h).symm) h
theorem Kp.lst {t b : Addr} {H H' : Hp} {xs : List V} {K : PySem.W.Frag} (k : Kp t H H') (h : SqL K H b xs) : SqL K H' b xs := by
  rcases h with (h | ⟨o, h⟩) | h
  · exact .inl (.inl (k.at h fun _ z => by cases z))
  · exact .inl (.inr ⟨o, k.at h fun _ z => by cases z⟩)
  · exact .inr h
theorem Kp.tup {t b : Addr} {H H' : Hp} {xs : List V} {K : PySem.W.Frag} (k : Kp t H H') (h : SqT K H b xs) : SqT K H' b xs := by
  rcases h with (h | ⟨o, h⟩) | h
  · exact .inl (.inl (k.at h fun _ z => by cases z))
  · exact .inl (.inr ⟨o, k.at h fun _ z => by cases z⟩)
  · exact .inr h
theorem same_upd {H : Hp} {p : Addr} {o : HO} (h : H p = none) : Same H (upd H p o) := fun b x e => by
  rw [upd_ne (ne_of_none e h)]
  exact e
theorem Kp.gone {t b : Addr} {H H' : Hp} (k : Kp t H H') (h : H' b = none) : H b = none := by
  cases q : H b with
  | none => rfl
  | some o =>
    by_cases e : b = t
    · obtain ⟨kvs, z⟩ := k.new
      rw [e, z] at h
      cases h
    · rw [k.oth b o e q] at h
      cases h
/-! ### the tape -/
def tpd (c : Addr) (p l : Int) : List (Key × V) := [(.inr "cells", .ref c), (.inr "place", .int p), (.inr "left", .int l)]
structure Tape (H : Hp) (t c : Addr) (n : Nat) : Prop where
  ex : ∃ (cells : List Int) (p : Nat) (l : Int), H t = some (.dK (tpd c p l)) ∧ H c = some (.lst (cells.map V.int)) ∧ 0 < cells.length ∧ cells.length ≤ 63 ∧ p ≤ n ∧ 0 ≤ l
section
variable {H H' : Hp} {t c : Addr} {n m : Nat}
theorem Tape.dk (T : Tape H t c n) : ∃ kvs, H t = some (.dK kvs) := by
  obtain ⟨cells, p, l, h, _⟩ := T.ex
  exact ⟨_, h⟩
theorem Tape.same (T : Tape H t c n) (s : Same H H') : Tape H' t c n := by
  obtain ⟨cells, p, l, h, hc, r⟩ := T.ex
  exact ⟨cells, p, l, s _ _ h, s _ _ hc, r⟩
theorem Tape.kp (T : Tape H t c n) (s : Same H H') : Kp t H H' := by
  obtain ⟨kvs, h⟩ := T.dk
  exact Kp.of h s
theorem Tape.mono (T : Tape H t c n) (h : n ≤ m) : Tape H t c m := by
  obtain ⟨cells, p, l, h1, h2, h3, h4, h5, h6⟩ := T.ex
  exact ⟨cells, p, l, h1, h2, h3, h4, Nat.le_trans h5 h, h6⟩
theorem Kp.refl (T : Tape H t c n) : Kp t H H := T.kp (Same.refl H)
/-- a store at an object that is not the tape's -/
theorem Tape.upd {D : Addr} {o : HO} (T : Tape H t c n) (h1 : D ≠ t) (h2 : D ≠ c) : Tape (upd H D o) t c n := by
  obtain ⟨cells, p, l, h, hc, r⟩ := T.ex
  exact ⟨cells, p, l, (upd_ne h1.symm).trans h, (upd_ne h2.symm).trans hc, r⟩
theorem Tape.ne1 {D : Addr} (T : Tape H t c n) (h : H D = none) : D ≠ t := fun z => by
  obtain ⟨cells, p, l, e, hc, r⟩ := T.ex
  rw [z, e] at h
  cases h
theorem Tape.ne2 {D : Addr} (T : Tape H t c n) (h : H D = none) : D ≠ c := fun z => by
  obtain ⟨cells, p, l, e, hc, r⟩ := T.ex
  rw [z, hc] at h
  cases h
theorem Kp.put {D : Addr} {o : HO} (k : Kp t H H') (h : H D = Option.none) (h1 : D ≠ t) : Kp t H (L2.upd H' D o) := by
  obtain ⟨kvs, e⟩ := k.new
  refine ⟨k.old, ⟨kvs, (upd_ne h1.symm).trans e⟩, fun b u n q => ?_⟩
  rw [upd_ne (ne_of_none q h)]
  exact k.oth b u n q
end
theorem ks1 : ¬ (("cells" : Str) = "place") := by decide +kernel
theorem ks2 : ¬ (("cells" : Str) = "left") := by decide +kernel
theorem ks3 : ¬ (("place" : Str) = "left") := by decide +kernel
theorem ks1' : ¬ (("place" : Str) = "cells") := by decide +kernel
theorem ks2' : ¬ (("left" : Str) = "cells") := by decide +kernel
theorem ks3' : ¬ (("left" : Str) = "place") := by decide +kernel
theorem tp_cells (c : Addr) (p l : Int) : valV (tpd c p l) (Sum.inr ("cells" : Str)) = some (.ref c) := by simp [tpd, valV]
theorem tp_place (c : Addr) (p l : Int) : valV (tpd c p l) (Sum.inr ("place" : Str)) = some (.int p) := by simp [tpd, valV, ks1]
theorem tp_left (c : Addr) (p l : Int) : valV (tpd c p l) (Sum.inr ("left" : Str)) = some (.int l) := by simp [tpd, valV, ks2, ks3]
theorem tp_put_place (c : Addr) (p q l : Int) : putK (tpd c p l) (Sum.inr ("place" : Str)) (.int q) = tpd c q l := by simp [putK, tpd, ks1, ks3']
theorem tp_put_left (c : Addr) (p l m : Int) : putK (tpd c p l) (Sum.inr ("left" : Str)) (.int m) = tpd c p m := by simp [putK, tpd, ks2, ks3]
theorem tp_merge (c : Addr) (p l : Int) : mergeK [] (tpd c p l) = tpd c p l := by simp [mergeK, putK, tpd, ks1, ks2, ks3]
theorem g_cells {H : Hp} {t c : Addr} {p l : Int} (h : H t = some (.dK (tpd c p l))) : DGet H t (.str "cells") (some (.ref c)) := by
  have q := DGet.k (k := Sum.inr ("cells" : Str)) h
  rw [tp_cells] at q
  exact q
theorem g_place {H : Hp} {t c : Addr} {p l : Int} (h : H t = some (.dK (tpd c p l))) : DGet H t (.str "place") (some (.int p)) := by
  have q := DGet.k (k := Sum.inr ("place" : Str)) h
  rw [tp_place] at q
  exact q
theorem g_left {H : Hp} {t c : Addr} {p l : Int} (h : H t = some (.dK (tpd c p l))) : DGet H t (.str "left") (some (.int l)) := by
  have q := DGet.k (k := Sum.inr ("left" : Str)) h
  rw [tp_left] at q
  exact q
theorem p_place {H : Hp} {t c : Addr} {p l : Int} (q : Int) (h : H t = some (.dK (tpd c p l))) : DPut H t (.str "place") (.int q) (upd H t (.dK (tpd c q l))) := by
  have z := DPut.k (k := Sum.inr ("place" : Str)) (v := V.int q) h (by show 3 < sizeLine; decide)
  rw [tp_put_place] at z
  exact z
theorem p_left {H : Hp} {t c : Addr} {p l : Int} (q : Int) (h : H t = some (.dK (tpd c p l))) : DPut H t (.str "left") (.int q) (upd H t (.dK (tpd c p q))) := by
  have z := DPut.k (k := Sum.inr ("left" : Str)) (v := V.int q) h (by show 3 < sizeLine; decide)
  rw [tp_put_left] at z
  exact z
def spBegin (K : PySem.W.Frag) : Sp := fun vs H Q _ => ∃ (a : Addr) (ns : List Int), vs = [.ref a] ∧ SqL K H a (ns.map V.int) ∧ ∀ H' t c, Same H H' → H t = none → H c = none → Tape H' t c 0 → Q (.ref t) H'
def spDraw : Sp := fun vs H Q _ => ∃ (t c : Addr) (m : Int) (n : Nat), vs = [.ref t, .int m] ∧ Tape H t c n ∧ n < 2 ^ 40 ∧ 0 < m ∧ m < 2 ^ 30 ∧ ∀ H' r, Kp t H H' → Tape H' t c (n + 1) → 0 ≤ r → r < m → Q (.int r) H'
/-- pick: from a list, from a text -/
def spPick (K : PySem.W.Frag) : Sp := fun vs H Q _ => ∃ (t c : Addr) (n : Nat) (x : V), vs = [.ref t, x] ∧ Tape H t c n ∧ n < 2 ^ 40 ∧
  ((∃ a xs, x = .ref a ∧ SqL K H a xs ∧ xs ≠ [] ∧ xs.length < 2 ^ 30 ∧ ∀ H' y, Kp t H H' → Tape H' t c (n + 1) → y ∈ xs → Q y H') ∨
   (∃ z : Str, x = .str z ∧ z.length ≠ 0 ∧ z.length < 2 ^ 20 ∧ ∀ H' d, Kp t H H' → Tape H' t c (n + 1) → d ∈ z.cps.toList → Q (.str ⟨#[d]⟩) H'))
section
variable {P : Program} {w : World} {K : PySem.W.Frag} {mg : Str → Option Value} {base : Heap}
theorem scBegin : FnScope ["_law_script"] ["_law_script"] (defScope sBegin) := ⟨rfl, rfl, rfl, by decide +kernel, rfl, by decide +kernel, by decide +kernel⟩
theorem cut63 (ns : List Int) : ∃ ms : List Int, cutV (ns.map V.int) none (some 63) = ms.map V.int ∧ ms.length ≤ 63 := by
  refine ⟨ns.take 63, ?_, ?_⟩
  · unfold cutV
    rw [HT.sIx_none, show HT.sIx (ns.map V.int).length (ns.map V.int).length (some 63) = min 63 (ns.map V.int).length from HT.sIx_nat _ _ 63, List.map_take]
    show List.take _ (List.drop 0 _) = _
    rw [List.drop_zero, Nat.sub_zero]
    by_cases c : 63 ≤ (ns.map V.int).length
    · rw [Nat.min_eq_left c]
    · rw [Nat.min_eq_right (by omega), List.take_length, List.take_of_length_le (by omega)]
  · rw [List.length_take]
    omega
theorem ok_begin (D : Df K mg "_law_begin" sBegin ["_law_script"]) : FnOk P w K mg base CX0 1 D.f D.fd ["_law_script"] (spBegin K) := by
  refine D.F.ok scBegin (fun vs H Q E h => ?_) (fun cdv A outer s H vs Q E hr h => ?_)
  · obtain ⟨a, ns, rfl, _⟩ := h
    rfl
  · obtain ⟨a, ns, rfl, hS, k⟩ := h
    refine ⟨_, pss_one (ps_ret (pe_disp (pps_cons pe_str (pe_orT (pe_slice sl_list (pv 0) po_none (po_some pe_int)) (pe_one (pe_lst (pa_cons pe_int pa_nil)))) (pps_cons pe_str pe_int (pps_cons pe_str pe_int pps_nil))) (by rfl) (by rfl) (fun z => by cases z) (by decide))), ?_⟩
    intro t ht
    have s1 : Same H (upd H t (.dK [])) := same_upd ht
    obtain ⟨ms, em, hm⟩ := cut63 ns
    refine ⟨_, rfl, 63, rfl, a, ns.map V.int, rfl, s1.seq hS, fun c hc => ?_⟩
    have nct : c ≠ t := fun z => by
      rw [z, upd_same] at hc
      cases hc
    rw [em]
    refine ⟨!(ms.map V.int).isEmpty, .inl ⟨_, SqL.of upd_same, rfl⟩, ite2 (fun e => ?_) (fun e => ?_)⟩
    · refine ⟨Eq.trans (upd_ne nct.symm) upd_same, tpd c 0 0, rfl, by show 3 ≤ 15; decide, ?_⟩
      rw [tp_merge]
      refine k _ t c (fun b o eb => ?_) ht (s1.free hc) ⟨ms, 0, 0, upd_same, Eq.trans (upd_ne nct) upd_same, ?_, hm, Nat.le_refl _, Int.le_refl _⟩
      · have nb : b ≠ t := ne_of_none eb ht
        rw [upd_ne nb]
        exact same_upd hc _ _ (s1 _ _ eb)
      · cases ms with
        | nil => cases e
        | cons x r => exact Nat.succ_pos _
    · refine ⟨by show 1 ≤ sizeLine; decide, fun d hd => ?_⟩
      have ndt : d ≠ t := fun z => by
        rw [z, upd_ne nct.symm, upd_same] at hd
        cases hd
      refine ⟨Eq.trans (upd_ne ndt.symm) (Eq.trans (upd_ne nct.symm) upd_same), tpd d 0 0, rfl, by show 3 ≤ 15; decide, ?_⟩
      rw [tp_merge]
      refine k _ t d (fun b o eb => ?_) ht (s1.free ((same_upd hc).free hd)) ⟨[0], 0, 0, upd_same, Eq.trans (upd_ne ndt) upd_same, Nat.succ_pos _, by decide, Nat.le_refl _, Int.le_refl _⟩
      have nb : b ≠ t := ne_of_none eb ht
      rw [upd_ne nb]
      exact same_upd hd _ _ (same_upd hc _ _ (s1 _ _ eb))
theorem scDraw : FnScope ["_law_tape", "_law_many", "_law_place", "_law_count", "_law_cell", "_law_found"] ["_law_tape", "_law_many"] (defScope sDraw) := ⟨rfl, rfl, rfl, by decide +kernel, rfl, by decide +kernel, by decide +kernel⟩
theorem tape_put {H : Hp} {t c : Addr} {cells : List Int} {n p : Nat} {l : Int} {kvs : List (Key × V)} (e : H t = some (.dK kvs)) (hc : H c = some (.lst (cells.map V.int))) (h1 : 0 < cells.length) (h2 : cells.length ≤ 63) (hp : p ≤ n) (hl : 0 ≤ l) :
    Tape (upd H t (.dK (tpd c p l))) t c n := by
  have nct : c ≠ t := ne_of hc e (by intro z; cases z)
  exact ⟨cells, p, l, upd_same, Eq.trans (upd_ne nct) hc, h1, h2, hp, hl⟩
theorem kp_put {H : Hp} {t : Addr} {kvs kvs' : List (Key × V)} (e : H t = some (.dK kvs)) : Kp t H (upd H t (.dK kvs')) := ⟨⟨_, e⟩, ⟨_, upd_same⟩, fun b o n h => (upd_ne n).trans h⟩
theorem ok_draw (D : Df K mg "_law_draw" sDraw ["_law_tape", "_law_many"]) (ml : mg "len" = none) : FnOk P w K mg base CX0 1 D.f D.fd ["_law_tape", "_law_many"] spDraw := by
  refine D.F.ok scDraw (fun vs H Q E h => ?_) (fun cdv A outer s H vs Q E hr h => ?_)
  · obtain ⟨t, c, m, n, rfl, _⟩ := h
    rfl
  · obtain ⟨t, c, m, n, rfl, T, hn, m0, m1, k⟩ := h
    have hu := hu_of hr
    refine ⟨_, C8.pss_cut (ps_if (pt_cmpR op_lt (pe_dget hu (pv 0) pe_str (fun _ _ => rfl)) (pv 1) (nomark _))
        (pss_cons (ps_par (i := 2) (j := 3) rfl scDraw.nd rfl rfl (by decide) rfl rfl (pa_cons (pe_dget hu (pv 0) pe_str (fun _ _ => rfl)) (pa_cons (pe_callB call_len_seq (by rfl) ml PySem.boot_len (pa_cons (pe_dget hu (pv 0) pe_str (fun _ _ => rfl)) pa_nil)) pa_nil)) (by rfl))
        (pss_cons (ps_asg (pe_tup (pa_cons (pe_ix ix_list (pe_dget hu (pv 0) pe_str (fun _ _ => rfl)) (pe_op op_mod (pv 2) (pv 3)) (fun _ _ => rfl)) (pa_cons (pe_op op_add (pv 2) pe_int) pa_nil)))
            (pg_tup rfl (pgs_cons (pg_name (i := 4) scDraw.nd rfl (.inl rfl)) (pgs_cons (pg_sub (pv 0) pe_str (set_dict hu)) pgs_nil))))
        (pss_cons (ps_dput hu (pv 0) pe_str (pe_op op_mod (pe_op op_pow (pe_op op_add (pe_op op_add (pe_op op_mod (pv 4) pe_int) (pe_op op_mul pe_int (pv 2))) pe_int) pe_int) (pe_op op_add (pe_op op_pow pe_int pe_int) pe_int)) rfl)
        (pss_one (ps_if (pw_and (pt_cmpR op_ge (pv 4) (pe_op op_pow pe_int pe_int) (nomark _)) (pw_and1 (pt_cmpR op_lt (pv 2) (pv 3) (nomark _)))).pt
          (pss_one (ps_dput hu (pv 0) pe_str (pe_op op_sub (pv 4) (pe_op op_pow pe_int pe_int)) rfl)) pss_nil))))) pss_nil)
      (pss_cons (ps_asg (pe_tup (pa_cons (pe_op op_mod (pe_dget hu (pv 0) pe_str (fun _ _ => rfl)) (pv 1)) (pa_cons (pe_op op_fdiv (pe_dget hu (pv 0) pe_str (fun _ _ => rfl)) (pv 1)) pa_nil)))
            (pg_tup rfl (pgs_cons (pg_name (i := 5) scDraw.nd rfl (.inl rfl)) (pgs_cons (pg_sub (pv 0) pe_str (set_dict hu)) pgs_nil))))
      (pss_one (ps_ret (pv 5)))), ?_⟩
    have m1' : m < 1073741824 := m1
    obtain ⟨cells, p, l, ht, hc, c0, c63, hp, l0⟩ := T.ex
    refine ⟨fun σ' H' => ∃ y2 y3 y4, σ' = [some (.ref t), some (.int m), y2, y3, y4, none] ∧ Kp t H H' ∧ Tape H' t c (n + 1), ?_, ?_⟩
    · refine ⟨.ref t, rfl, t, .int l, rfl, g_left ht, .int m, rfl, l, m, rfl, rfl, _, rfl, ite2 (fun e => ?_) (fun e => ?_)⟩
      · refine ⟨.ref t, rfl, t, .int p, rfl, g_place ht, .ref t, rfl, t, .ref c, rfl, g_cells ht, c, _, rfl, .inl (SqL.of hc), _, _, rfl, ?_⟩
        have lp : 0 < (cells.map V.int).length := by
          rw [List.length_map]
          exact c0
        have jl : p % (cells.map V.int).length < cells.length := by
          have := Nat.mod_lt p lp
          rw [List.length_map] at this ⊢
          exact this
        have ga : (cells.map V.int)[p % (cells.map V.int).length]? = some (.int cells[p % (cells.map V.int).length]) := by
          rw [List.getElem?_map, List.getElem?_eq_getElem jl]
          rfl
        generalize cells[p % (cells.map V.int).length] = z at ga
        refine ⟨.ref t, rfl, t, .ref c, rfl, g_cells ht, _, rfl, _, rfl, (p : Int), ((cells.map V.int).length : Int), rfl, rfl, by omega, c, _, _, .int z, rfl, rfl, SqL.of hc, at_of (j := p % (cells.map V.int).length) (by rw [Int.natCast_emod]) ga, .int p, rfl, (p : Int), 1, rfl, rfl, by show 2 ≤ sizeLine; decide, fun q hq => ?_⟩
        have s1 : Same H (upd H q (.tup [.int z, .int ((p : Int) + 1)])) := same_upd hq
        have ht1 := s1 _ _ ht
        have hc1 := s1 _ _ hc
        have nct : c ≠ t := ne_of hc ht (by intro z; cases z)
        refine ⟨q, _, rfl, SqT.of upd_same, rfl, _, _, rfl, _, _, rfl, .ref t, rfl, t, _, rfl, p_place ((p : Int) + 1) ht1, rfl, ?_⟩
        have hn' : n < 1099511627776 := hn
        have zm0 : 0 ≤ z % 2147483647 := Int.emod_nonneg _ (by decide)
        have zm1 : z % 2147483647 < 2147483647 := Int.emod_lt_of_pos _ (by decide)
        have b0 : (z % 2147483647 + 69621 * (p : Int) + 48271).natAbs < 2 ^ 64 := by omega
        refine ⟨.int z, rfl, z, 2147483647, rfl, rfl, (by show (0 : Int) < 2147483647; decide), .int p, rfl, 69621, (p : Int), rfl, rfl, .inl ⟨by decide, by decide⟩, _, _, rfl, rfl, _, 48271, rfl, rfl, _, 17, rfl, rfl, ⟨by decide, by decide, b0⟩, 10, 50, rfl, rfl, ⟨by decide, by decide, by decide⟩, _, 151, rfl, rfl, _, _, rfl, rfl, ?_, ?_⟩
        · exact (by decide +kernel : (0 : Int) < 10 ^ (50 : Int).toNat + 151)
        have ht2 : (upd (upd H q (.tup [.int z, .int ((p : Int) + 1)])) t (.dK (tpd c ((p : Int) + 1) l))) t = some (.dK (tpd c ((p : Int) + 1) l)) := upd_same
        refine ⟨.ref t, rfl, t, _, rfl, p_left ((z % 2147483647 + 69621 * (p : Int) + 48271) ^ (17 : Int).toNat % (10 ^ (50 : Int).toNat + 151)) ht2, ?_⟩
        have x0 : 0 ≤ (z % 2147483647 + 69621 * (p : Int) + 48271) ^ (17 : Int).toNat % (10 ^ (50 : Int).toNat + 151) := Int.emod_nonneg _ (by decide +kernel)
        generalize (z % 2147483647 + 69621 * (p : Int) + 48271) ^ (17 : Int).toNat % (10 ^ (50 : Int).toNat + 151) = x17 at x0 ⊢
        have k3 : Kp t H (upd (upd (upd H q (.tup [.int z, .int ((p : Int) + 1)])) t (.dK (tpd c ((p : Int) + 1) l))) t (.dK (tpd c ((p : Int) + 1) x17))) := ((Kp.of ht s1).trans (kp_put ht1)).trans (kp_put ht2)
        have hc3 := k3.at hc (fun _ z => by cases z)
        refine ⟨.int z, rfl, 10, 18, rfl, rfl, ⟨by decide, by decide, by decide⟩, z, _, rfl, rfl, _, rfl, ite2 (fun e2 => ?_) (fun e2 => ?_)⟩
        · refine ⟨.int p, rfl, _, rfl, _, _, rfl, rfl, _, rfl, ite2 (fun e3 => ?_) (fun e3 => ?_)⟩
          · have hz : (0 : Int) ≤ z - 10 ^ (18 : Int).toNat := by
              have e4 : (10 : Int) ^ (18 : Int).toNat ≤ z := of_decide_eq_true e2
              omega
            refine ⟨.int z, rfl, 10, 18, rfl, rfl, ⟨by decide, by decide, by decide⟩, z, _, rfl, rfl, .ref t, rfl, t, _, rfl, p_left (z - 10 ^ (18 : Int).toNat) upd_same, ?_⟩
            exact ⟨_, _, _, rfl, k3.trans (kp_put upd_same), tape_put (p := p + 1) upd_same hc3 c0 c63 (by omega) hz⟩
          · exact ⟨_, _, _, rfl, k3, ⟨cells, p + 1, x17, upd_same, hc3, c0, c63, by omega, x0⟩⟩
        · exact ⟨_, _, _, rfl, k3, ⟨cells, p + 1, x17, upd_same, hc3, c0, c63, by omega, x0⟩⟩
      · exact ⟨none, none, none, rfl, Kp.refl T, T.mono (Nat.le_succ n)⟩
    · rintro σ' H' ⟨y2, y3, y4, rfl, k1, T1⟩
      obtain ⟨cells, p, l, ht, hc, c0, c63, hp, l0⟩ := T1.ex
      refine ⟨.ref t, rfl, t, .int l, rfl, g_left ht, .int m, rfl, l, m, rfl, rfl, m0, .ref t, rfl, t, .int l, rfl, g_left ht, .int m, rfl, l, m, rfl, rfl, ⟨m0, m1⟩, by show 2 ≤ sizeLine; decide, fun q hq => ?_⟩
      have s1 : Same H' (upd H' q (.tup [.int (l % m), .int (l / m)])) := same_upd hq
      have ht1 := s1 _ _ ht
      refine ⟨q, _, rfl, SqT.of upd_same, rfl, _, _, rfl, _, _, rfl, .ref t, rfl, t, _, rfl, p_left (l / m) ht1, rfl, ?_⟩
      refine ⟨_, rfl, k _ _ ((k1.trans (T1.kp s1)).trans (kp_put ht1)) (tape_put ht1 (s1 _ _ hc) c0 c63 hp (Int.ediv_nonneg l0 (by omega))) (Int.emod_nonneg _ (by omega)) (Int.emod_lt_of_pos _ m0)⟩
theorem at_cp {α : Type} {xs : List α} {z : Int} {j : Nat} {v : α} (e : z = (j : Int)) (h : xs[j]? = some v) : atI xs z = some v := by
  rw [e]
  exact atI_nat h
theorem scPick : FnScope ["_law_tape", "_law_items"] ["_law_tape", "_law_items"] (defScope sPick) := ⟨rfl, rfl, rfl, by decide +kernel, rfl, by decide +kernel, by decide +kernel⟩
theorem ok_pick (D : Df K mg "_law_pick" sPick ["_law_tape", "_law_items"]) (Dd : Df K mg "_law_draw" sDraw ["_law_tape", "_law_many"]) (ml : mg "len" = none) : FnOk P w K mg base CX0 2 D.f D.fd ["_law_tape", "_law_items"] (spPick K) := by
  have Gd : FnOk P w K mg base CX0 1 Dd.f Dd.fd ["_law_tape", "_law_many"] spDraw := ok_draw Dd ml
  refine D.F.ok scPick (fun vs H Q E h => ?_) (fun cdv A outer s H vs Q E hr h => ?_)
  · obtain ⟨t, c, n, x, rfl, _⟩ := h
    rfl
  · obtain ⟨t, c, n, x, rfl, T, hn, h⟩ := h
    rcases h with ⟨a, xs, rfl, hx, ne, hl, k⟩ | ⟨z, rfl, ne, hl, k⟩
    · refine ⟨_, pss_one (ps_ret (pe_ix ix_list (pv 1) (pe_call Gd hr (by rfl) Dd.g Dd.F.kp Dd.b .nil pass0 (pa_cons (pv 0) (pa_cons (pe_callB call_len_seq (by rfl) ml PySem.boot_len (pa_cons (pv 1) pa_nil)) pa_nil))) (fun _ _ => rfl))), ?_⟩
      have l0 : 0 < xs.length := List.length_pos_iff.mpr ne
      refine ⟨.ref a, rfl, .ref t, rfl, .ref a, rfl, a, xs, rfl, .inl hx, t, c, _, n, rfl, T, hn, by omega, by omega, fun H' r k1 T1 r0 r1 => ?_⟩
      have rl : r.toNat < xs.length := by omega
      refine ⟨a, xs, r, xs[r.toNat], rfl, rfl, k1.lst hx, at_of (j := r.toNat) (by omega) (List.getElem?_eq_getElem rl), k H' _ k1 T1 (List.getElem_mem rl)⟩
    · refine ⟨_, pss_one (ps_ret (pe_ix ix_str (pv 1) (pe_call Gd hr (by rfl) Dd.g Dd.F.kp Dd.b .nil pass0 (pa_cons (pv 0) (pa_cons (pe_callB call_len_str (by rfl) ml PySem.boot_len (pa_cons (pv 1) pa_nil)) pa_nil))) (fun _ _ => rfl))), ?_⟩
      have zl : z.cps.toList.length = z.length := Array.length_toList
      refine ⟨.str z, rfl, .ref t, rfl, .str z, rfl, z, rfl, ?_, t, c, _, n, rfl, T, hn, by omega, by omega, fun H' r k1 T1 r0 r1 => ?_⟩
      · rw [sizeLine_eq]; omega
      have rl : r.toNat < z.cps.toList.length := by omega
      refine ⟨z, r, z.cps.toList[r.toNat], rfl, rfl, ?_, at_cp (by omega) (List.getElem?_eq_getElem rl), k H' _ k1 T1 (List.getElem_mem rl)⟩
      rw [sizeLine_eq]
      omega
end
end DW
namespace DW
open PySem PySem.Spec PyProof.Rows L2 TL
set_option autoImplicit false
/-! ### texts as lists of codes -/
def one (c : Nat) : Str := ⟨#[c]⟩
theorem tl_one (c : Nat) : tl (one c) = [c] := rfl
theorem tl_inj {x y : Str} (h : tl x = tl y) : x = y := by
  obtain ⟨⟨a⟩⟩ := x
  obtain ⟨⟨b⟩⟩ := y
  have e : a = b := h
  rw [e]
theorem joinL_nil : ∀ l : List (List Nat), joinL [] l = l.flatten
  | [] => rfl
  | [p] => by simp [joinL]
  | p :: q :: r => by
    show p ++ ([] ++ joinL [] (q :: r)) = (p :: q :: r).flatten
    rw [joinL_nil (q :: r)]
    simp
theorem tl_cat (ys : List Str) : tl (Txt.join "" ys) = (ys.map tl).flatten := by
  have e : tl (Str.join "" ys) = joinL (tl "") (ys.map tl) := tl_join "" ys
  rw [join_eq, e, show tl "" = [] from rfl, joinL_nil]
theorem flat_ones (cs : List Nat) : ((cs.map one).map tl).flatten = cs := by
  induction cs with
  | nil => rfl
  | cons c r ih =>
    show [c] ++ ((r.map one).map tl).flatten = c :: r
    rw [ih]
    rfl
theorem lt_ones (x p : Nat) : ltCps (tl (one x)) (tl (one p)) = decide (x < p) := by
  simp [one, ltCps]
theorem sorted_ones : ∀ ys : List Str, (∀ y ∈ ys, ∃ c, y = one c) → ys.Nodup → sortedS ys = true → ∃ cs : List Nat, ys = cs.map one ∧ cs.Pairwise (· < ·)
  | [], _, _, _ => ⟨[], rfl, List.Pairwise.nil⟩
  | [y], h, _, _ => by
    obtain ⟨c, rfl⟩ := h y List.mem_cons_self
    exact ⟨[c], rfl, List.pairwise_singleton _ _⟩
  | y :: z :: r, h, nd, so => by
    obtain ⟨hy, nd'⟩ := List.nodup_cons.mp nd
    obtain ⟨c, rfl⟩ := h y List.mem_cons_self
    obtain ⟨d, rfl⟩ := h z (List.mem_cons_of_mem _ List.mem_cons_self)
    have so' : (!ltCps (tl (one d)) (tl (one c)) && risingS (one d) r) = true := so
    rw [Bool.and_eq_true] at so'
    obtain ⟨cs, e, pw⟩ := sorted_ones (one d :: r) (fun u hu => h u (List.mem_cons_of_mem _ hu)) nd' so'.2
    have lt : c < d := by
      have q := so'.1
      rw [lt_ones] at q
      have n1 : ¬ d < c := by simpa using q
      have n2 : c ≠ d := fun z => hy (by rw [z]; exact List.mem_cons_self)
      omega
    cases cs with
    | nil => cases e
    | cons d' cs =>
      have e1 : one d = one d' := (List.cons.inj e).1
      have e2 : d = d' := by
        have q := congrArg tl e1
        exact (List.cons.inj q).1
      subst e2
      refine ⟨c :: d :: cs, by rw [List.map_cons, ← e], List.pairwise_cons.mpr ⟨fun u hu => ?_, pw⟩⟩
      rcases List.mem_cons.mp hu with q | q
      · omega
      · have := (List.pairwise_cons.mp pw).1 u q
        omega
theorem sum_ones : ∀ ys : List Str, (∀ y ∈ ys, ∃ c, y = one c) → (ys.map (·.length)).sum = ys.length
  | [], _ => rfl
  | y :: r, h => by
    obtain ⟨c, rfl⟩ := h y List.mem_cons_self
    rw [List.map_cons, List.sum_cons, sum_ones r fun u hu => h u (List.mem_cons_of_mem _ hu), List.length_cons]
    show 1 + r.length = r.length + 1
    omega
theorem yes {σ : L2.St} {H : Hp} {F G : Hp → Prop} (h : F H) : tYes σ H (fun b H3 => if b = true then F H3 else G H3) := by
  show (if true = true then F H else G H)
  rw [if_pos rfl]
  exact h
/-- an alphabet -/
def Alph (z : Str) : Prop := (tl z).Pairwise (· < ·) ∧ 1 ≤ (tl z).length ∧ (tl z).length ≤ 3 ∧ ∀ c ∈ tl z, 97 ≤ c ∧ c ≤ 122
def abc : Str := "abcdefghijklmnopqrstuvwxyz"
theorem abc_low : ∀ c ∈ tl abc, 97 ≤ c ∧ c ≤ 122 := by decide +kernel
theorem abc_len : (tl abc).length = 26 := by decide +kernel
theorem al1 : Alph "ab" := by unfold Alph; decide +kernel
theorem al2 : Alph "abc" := by unfold Alph; decide +kernel
theorem al3 : Alph "a" := by unfold Alph; decide +kernel
theorem al4 : Alph "bx" := by unfold Alph; decide +kernel
theorem al5 : Alph "cmz" := by unfold Alph; decide +kernel
theorem alph_of {ds : List Nat} {ls ys : List Str} (h1 : 1 ≤ ds.length) (h3 : ds.length ≤ 3) (low : ∀ c ∈ ds, 97 ≤ c ∧ c ≤ 122) (nd : ls.Nodup) (mem : ∀ k, k ∈ ls ↔ k ∈ ds.map one) (le : ls.length ≤ (ds.map one).length)
    (pm : ys.Perm ls) (so : sortedS ys = true) : Alph (Txt.join "" ys) := by
  have hm : ∀ y ∈ ys, y ∈ ds.map one := fun y hy => (mem y).mp (pm.mem_iff.mp hy)
  obtain ⟨cs, rfl, pw⟩ := sorted_ones ys (fun y hy => by
    obtain ⟨c, _, e⟩ := List.mem_map.mp (hm y hy)
    exact ⟨c, e.symm⟩) (pm.nodup_iff.mpr nd) so
  have e : tl (Txt.join "" (cs.map one)) = cs := by rw [tl_cat, flat_ones]
  have hl : cs.length = ls.length := by
    have q := pm.length_eq
    rw [List.length_map] at q
    exact q
  rw [List.length_map] at le
  unfold Alph
  rw [e]
  refine ⟨pw, ?_, by omega, fun c hc => ?_⟩
  · cases ds with
    | nil => cases h1
    | cons d r =>
      have q : one d ∈ ls := (mem _).mpr List.mem_cons_self
      have q2 : one d ∈ cs.map one := pm.mem_iff.mpr q
      have := List.length_pos_of_mem q2
      rw [List.length_map] at this
      omega
  · obtain ⟨d, hd, e⟩ := List.mem_map.mp (hm (one c) (List.mem_map.mpr ⟨c, hc, rfl⟩))
    have e2 : d = c := by
      have q := congrArg tl e
      exact (List.cons.inj q).1
    rw [← e2]
    exact low d hd
/-! ### what the module's names hold -/
structure Bl (mg : Str → Option Value) : Prop where
  len : mg "len" = none
  range : mg "range" = none
  sorted : mg "sorted" = none
  set : mg "set" = none
def spAlpha : Sp := fun vs H Q _ => ∃ (t c : Addr) (n : Nat), vs = [.ref t] ∧ Tape H t c n ∧ n + 10 < 2 ^ 40 ∧ ∀ H' z, Kp t H H' → Tape H' t c (n + 10) → Alph z → Q (.str z) H'
abbrev DfDraw (K : PySem.W.Frag) (mg : Str → Option Value) := Df K mg "_law_draw" sDraw ["_law_tape", "_law_many"]
abbrev DfPick (K : PySem.W.Frag) (mg : Str → Option Value) := Df K mg "_law_pick" sPick ["_law_tape", "_law_items"]
end DW
namespace DW
open PySem PySem.Spec PyProof.Rows L2 TL
set_option autoImplicit false
section
variable {P : Program} {w : World} {K : PySem.W.Frag} {mg : Str → Option Value} {base : Heap}
theorem scAlpha : FnScope ["_law_tape", "_law_letters", "_law_drawn", "_law_k"] ["_law_tape"] (defScope sAlpha) := ⟨rfl, rfl, rfl, by decide +kernel, rfl, by decide +kernel, by decide +kernel⟩
theorem ok_alpha (D : Df K mg "_law_alphabet" sAlpha ["_law_tape"]) (Dd : DfDraw K mg) (Dp : DfPick K mg) (B : Bl mg) : FnOk P w K mg base CX0 3 D.f D.fd ["_law_tape"] spAlpha := by
  have Gd : FnOk P w K mg base CX0 1 Dd.f Dd.fd ["_law_tape", "_law_many"] spDraw := ok_draw Dd B.len
  have Gp : FnOk P w K mg base CX0 2 Dp.f Dp.fd ["_law_tape", "_law_items"] (spPick K) := ok_pick Dp Dd B.len
  refine D.F.ok scAlpha (fun vs H Q E h => ?_) (fun cdv A outer s H vs Q E hr h => ?_)
  · obtain ⟨t, c, n, rfl, _⟩ := h
    rfl
  · obtain ⟨t, c, n, rfl, T, hn, k⟩ := h
    have hr1 : Room 1 _ := hr.mono (by decide)
    refine ⟨_, pss_cons (ps_set (i := 1) scAlpha.nd rfl (Or.inr rfl) pe_str)
      (pss_cons (ps_setLc (i := 2) (own := [("_law_k", 3)]) (g := gName 3) (tt := tYes) rfl scAlpha.nd rfl rfl (sw_true rfl rfl rfl (by decide +kernel))
        (pi_range1 rfl B.range (pa_cons (pe_op op_add pe_int (pe_call Gd hr1 (by rfl) Dd.g Dd.F.kp Dd.b .nil pass0 (pa_cons (pv 0) (pa_cons pe_int pa_nil)))) pa_nil))
        (blkOk_by (N := ["_law_tape", "_law_letters", "_law_drawn", "_law_k"]) (sc := defScope sAlpha) (by decide +kernel)) (fun _ _ _ _ _ => pg_name (i := 3) scAlpha.nd rfl (Or.inl rfl)) (fun _ _ _ _ _ => pts_nil)
        (fun _ _ _ _ _ => pe_ix ix_str (pv 1) (pe_call Gd hr1 (by rfl) Dd.g Dd.F.kp Dd.b .nil pass0 (pa_cons (pv 0) (pa_cons pe_int pa_nil))) (fun _ _ => rfl)))
      (pss_one (ps_ret (pe_call Gp hr (by rfl) Dp.g Dp.F.kp Dp.b .nil pass0 (pa_cons (pv 0) (pa_cons
        (pe_op op_cat (pe_lst (pa_cons pe_str (pa_cons pe_str (pa_cons pe_str (pa_cons pe_str (pa_cons pe_str pa_nil))))))
          (pe_op op_rep (pe_lst (pa_cons (pe_join pe_str (pe_callB (TX.cr_sortTx rfl) (by rfl) B.sorted (by decide +kernel) (pa_cons (pe_callTy (TX.cr_setL rfl) (by rfl) B.set (by decide +kernel) (pa_cons (pv 2) pa_nil)) pa_nil))) pa_nil)) pe_int)) pa_nil)))))), ?_⟩
    refine ⟨.ref t, rfl, t, c, 3, n, rfl, T, by omega, by decide, by decide, fun H1 r k1 T1 r0 r1 => ?_⟩
    refine ⟨1, r, rfl, rfl, 1 + r, rfl, by omega, by omega, fun D hD => ?_⟩
    have D1 := T1.ne1 hD
    have D2 := T1.ne2 hD
    have D0 := k1.gone hD
    refine lc_range (lo := 0) (n := (1 + r).toNat) (fun i H' => ∃ ds : List Nat, ds.length = i ∧ (∀ c ∈ ds, 97 ≤ c ∧ c ≤ 122) ∧ H' D = some (.lst ((ds.map one).map V.str)) ∧ Kp t H H' ∧ Tape H' t c (n + 1 + i)) ?_ ?_ ?_
    · exact ⟨[], rfl, fun c hc => (nomatch hc), upd_same, k1.put D0 D1, T1.upd D1 D2⟩
    · rintro i G hi ⟨ds, dl, low, gD, kG, TG⟩
      refine ⟨rfl, yes ?_⟩
      refine ⟨.str abc, rfl, .ref t, rfl, t, c, 26, n + 1 + i, rfl, TG, by omega, by decide, by decide, fun H4 q k4 T4 q0 q1 => ?_⟩
      have ql : q.toNat < (tl abc).length := by
        rw [abc_len]
        omega
      have gD4 := k4.at gD (fun _ z => by cases z)
      refine ⟨abc, q, (tl abc)[q.toNat], rfl, rfl, by decide +kernel, at_cp (j := q.toNat) (by omega) (List.getElem?_eq_getElem ql), _, gD4, ?_, ?_⟩
      · rw [List.length_map, List.length_map, dl, sizeLine_eq]
        omega
      · refine ⟨ds ++ [(tl abc)[q.toNat]], by rw [List.length_append, dl]; rfl, fun c hc => ?_, ?_, ?_, ?_⟩
        · rcases List.mem_append.mp hc with z | z
          · exact low c z
          · rw [List.mem_singleton.mp z]
            exact abc_low _ (List.getElem_mem ql)
        · rw [upd_same, List.map_append, List.map_append]
          rfl
        · exact (kG.trans k4).put D0 D1
        · exact T4.upd D1 D2
    · rintro G ⟨ds, dl, low, gD, kG, TG⟩
      refine ⟨.ref t, rfl, by show 5 ≤ sizeLine; decide, fun l1 e1 => ?_⟩
      have s1 := same_upd (o := .lst [V.str "ab", V.str "abc", V.str "a", V.str "bx", V.str "cmz"]) e1
      refine ⟨⟨_, rfl⟩, .ref D, rfl, D, ds.map one, rfl, SqL.of (s1 _ _ gD), ?_, fun a ls ea nd mem le => ?_⟩
      · rw [List.length_map, dl]
        unfold scanBound
        omega
      have s2 := same_upd (o := TX.SetTx P w a ls) ea
      refine ⟨a, ls, rfl, upd_same, ?_, fun ys p pm so ep => ?_⟩
      · rw [List.length_map] at le
        omega
      have al := alph_of (by omega) (by omega) low nd mem le pm so
      have s3 := same_upd (o := .lst (ys.map V.str)) ep
      refine ⟨"", p, ys, rfl, rfl, .inl (SqL.of upd_same), ?_, by show 1 ≤ sizeLine; decide, fun l2 e2 => ?_⟩
      · rw [sum_ones ys fun y hy => ?_]
        · rw [pm.length_eq]
          rw [List.length_map] at le
          show ls.length + ls.length * 0 ≤ 16777216
          omega
        · obtain ⟨u, _, e⟩ := List.mem_map.mp ((mem y).mp (pm.mem_iff.mp hy))
          exact ⟨u, e.symm⟩
      have s4 := same_upd (o := .lst [V.str (Txt.join "" ys)]) e2
      refine ⟨l2, 5, _, rfl, rfl, upd_same, by decide, by decide, by show 1 * 5 ≤ sizeLine; decide, fun l3 e3 => ?_⟩
      have s5 := same_upd (o := .lst (List.replicate (5 : Int).toNat [V.str (Txt.join "" ys)]).flatten) e3
      refine ⟨l1, l3, _, _, rfl, rfl, s5 _ _ (s4 _ _ (s3 _ _ (s2 _ _ upd_same))), upd_same, by show 5 + 5 ≤ sizeLine; decide, fun l4 e4 => ?_⟩
      have s6 := same_upd (o := .lst ([V.str "ab", V.str "abc", V.str "a", V.str "bx", V.str "cmz"] ++ (List.replicate (5 : Int).toNat [V.str (Txt.join "" ys)]).flatten)) e4
      have sa := ((((s1.trans s2).trans s3).trans s4).trans s5).trans s6
      refine ⟨t, c, n + 1 + (1 + r).toNat, .ref l4, rfl, TG.same sa, by omega, .inl ⟨l4, _, rfl, SqL.of upd_same, by simp, by show 10 < 2 ^ 30; decide, fun H' y k' T' hy => ?_⟩⟩
      have hy' : ∃ z, y = V.str z ∧ Alph z := by
        rcases List.mem_append.mp hy with q | q
        · simp only [List.mem_cons, List.not_mem_nil, or_false] at q
          rcases q with q | q | q | q | q
          · exact ⟨_, q, al1⟩
          · exact ⟨_, q, al2⟩
          · exact ⟨_, q, al3⟩
          · exact ⟨_, q, al4⟩
          · exact ⟨_, q, al5⟩
        · obtain ⟨u, hu, hy⟩ := List.mem_flatten.mp q
          rw [List.eq_of_mem_replicate hu] at hy
          exact ⟨_, List.mem_singleton.mp hy, al⟩
      obtain ⟨z, rfl, az⟩ := hy'
      exact k H' z ((kG.trans (TG.kp sa)).trans k') (T'.mono (by omega)) az
end
end DW
namespace DW
open PySem PySem.Spec PyProof.Rows L2 TL
set_option autoImplicit false
theorem drop_at {α : Type} {l : List α} {i : Nat} {x : α} (h : l[i]? = some x) : l.drop i = x :: l.drop (i + 1) := by
  obtain ⟨hi, e⟩ := List.getElem?_eq_some_iff.mp h
  rw [← e]
  exact List.drop_eq_getElem_cons hi
theorem tl_app (x y : Str) : tl (x ++ y) = tl x ++ tl y := Array.toList_append
def OverW (z : Str) (u : Str) : Prop := ∀ c ∈ tl u, c ∈ tl z
/-! ### letters taken one after the other -/
def spWord : Sp := fun vs H Q _ => ∃ (t c : Addr) (n : Nat) (z : Str) (m : Int), vs = [.ref t, .str z, .int m] ∧ Tape H t c n ∧ n + 200 < 2 ^ 40 ∧ Alph z ∧ 0 ≤ m ∧ m ≤ 100 ∧
  ∀ H' u, Kp t H H' → Tape H' t c (n + 200) → OverW z u → ((tl u).length : Int) ≤ m → Q (.str u) H'
section
variable {P : Program} {w : World} {K : PySem.W.Frag} {mg : Str → Option Value} {base : Heap}
theorem scWord : FnScope ["_law_tape", "_law_alphabet_here", "_law_longest", "_law_k"] ["_law_tape", "_law_alphabet_here", "_law_longest"] (defScope sWord) := ⟨rfl, rfl, rfl, by decide +kernel, rfl, by decide +kernel, by decide +kernel⟩
theorem ok_word (D : Df K mg "_law_word" sWord ["_law_tape", "_law_alphabet_here", "_law_longest"]) (Dd : DfDraw K mg) (Dp : DfPick K mg) (B : Bl mg) : FnOk P w K mg base CX0 3 D.f D.fd ["_law_tape", "_law_alphabet_here", "_law_longest"] spWord := by
  have Gd : FnOk P w K mg base CX0 1 Dd.f Dd.fd ["_law_tape", "_law_many"] spDraw := ok_draw Dd B.len
  have Gp : FnOk P w K mg base CX0 2 Dp.f Dp.fd ["_law_tape", "_law_items"] (spPick K) := ok_pick Dp Dd B.len
  refine D.F.ok scWord (fun vs H Q E h => ?_) (fun cdv A outer s H vs Q E hr h => ?_)
  · obtain ⟨t, c, n, z, m, rfl, _⟩ := h
    rfl
  · obtain ⟨t, c, n, z, m, rfl, T, hn, al, m0, m1, k⟩ := h
    have hr1 : Room 1 _ := hr.mono (by decide)
    have zl : z.length = (tl z).length := (Array.length_toList).symm
    obtain ⟨pw, l1, l3, low⟩ := id al
    refine ⟨_, (pss_one (ps_ret (pe_join pe_str (pe_lc (own := [("_law_k", 3)]) (g := gName 3) rfl scWord.nd (pi_range1 rfl B.range (pa_cons (pe_call Gd hr1 (by rfl) Dd.g Dd.F.kp Dd.b .nil pass0 (pa_cons (pv 0) (pa_cons (pe_op op_add (pv 2) pe_int) pa_nil))) pa_nil)) (blkOk_by (N := ["_law_tape", "_law_alphabet_here", "_law_longest", "_law_k"]) (sc := defScope sWord) (by decide +kernel)) (fun _ _ _ _ _ => pg_name (i := 3) scWord.nd rfl (Or.inl rfl)) (fun _ _ _ _ _ => pts_nil) (fun _ _ _ _ _ => (pe_call Gp hr (by rfl) Dp.g Dp.F.kp Dp.b .nil pass0 (pa_cons (pv 0) (pa_cons (pv 1) pa_nil)))))))), ?_⟩
    refine ⟨⟨_, rfl⟩, .ref t, rfl, .int m, rfl, m, 1, rfl, rfl, t, c, m + 1, n, rfl, T, by omega, by omega, by omega, fun H1 r k1 T1 r0 r1 => ?_⟩
    refine ⟨r, rfl, by omega, by omega, fun D hD => ?_⟩
    have D1 := T1.ne1 hD
    have D2 := T1.ne2 hD
    have D0 := k1.gone hD
    refine lc_range (lo := 0) (n := r.toNat) (fun i H' => ∃ ds : List Nat, ds.length = i ∧ (∀ c ∈ ds, c ∈ tl z) ∧ H' D = some (.lst ((ds.map one).map V.str)) ∧ Kp t H H' ∧ Tape H' t c (n + 1 + i)) ?_ ?_ ?_
    · exact ⟨[], rfl, fun c hc => (nomatch hc), upd_same, k1.put D0 D1, T1.upd D1 D2⟩
    · rintro i G hi ⟨ds, dl, ov, gD, kG, TG⟩
      refine ⟨rfl, yes ?_⟩
      refine ⟨.ref t, rfl, .str z, rfl, t, c, _, .str z, rfl, TG, by omega, .inr ⟨z, rfl, by omega, by omega, fun H4 d k4 T4 hd => ?_⟩⟩
      have gD4 := k4.at gD (fun _ z => by cases z)
      refine ⟨_, gD4, ?_, ds ++ [d], by rw [List.length_append, dl]; rfl, fun c hc => ?_, ?_, (kG.trans k4).put D0 D1, T4.upd D1 D2⟩
      · rw [List.length_map, List.length_map, dl, sizeLine_eq]
        omega
      · rcases List.mem_append.mp hc with q | q
        · exact ov c q
        · rw [List.mem_singleton.mp q]
          exact hd
      · rw [upd_same, List.map_append, List.map_append]
        rfl
    · rintro G ⟨ds, dl, ov, gD, kG, TG⟩
      have ej : tl (Txt.join "" (ds.map one)) = ds := by rw [tl_cat, flat_ones]
      refine ⟨"", D, ds.map one, rfl, rfl, .inl (SqL.of gD), ?_, k _ _ kG (TG.mono (by omega)) (fun c hc => ov c (by rw [ej] at hc; exact hc)) (by rw [ej]; omega)⟩
      rw [sum_ones _ fun y hy => ?_, List.length_map]
      · show ds.length + ds.length * 0 ≤ 16777216
        omega
      · obtain ⟨u, _, e⟩ := List.mem_map.mp hy
        exact ⟨u, e.symm⟩
end
end DW
namespace DW
open PySem PySem.Spec PyProof.Rows L2 TL
set_option autoImplicit false
def rem : List Nat → List Nat → List Nat
  | w, [] => w
  | [], _ :: _ => []
  | c :: w, d :: o => if c = d then rem w o else rem (c :: w) o
theorem rem_nil : ∀ o : List Nat, rem [] o = []
  | [] => rfl
  | _ :: _ => rfl
theorem rem_iff : ∀ (o w : List Nat), rem w o = [] ↔ w.Sublist o
  | [], w => by
    show w = [] ↔ _
    rw [List.sublist_nil]
  | d :: o, [] => by simp [rem]
  | d :: o, c :: w => by
    show (if c = d then rem w o else rem (c :: w) o) = [] ↔ _
    by_cases e : c = d
    · subst e
      rw [if_pos rfl, rem_iff o w, List.cons_sublist_cons]
    · rw [if_neg e, rem_iff o (c :: w)]
      constructor
      · exact fun h => .cons _ h
      · intro h
        cases h with
        | cons _ h => exact h
        | cons_cons _ h => exact absurd rfl e
theorem cut_tail {z : Str} {c : Nat} {r : List Nat} (h : tl z = c :: r) : tl (cutS z (some 1) none) = r := by
  have zl : z.length = r.length + 1 := by
    have e : z.length = (tl z).length := (Array.length_toList).symm
    rw [e, h]
    rfl
  show ((z.cps.toList.drop (HT.sIx z.length 0 (some 1))).take (HT.sIx z.length z.length none - HT.sIx z.length 0 (some 1))) = r
  rw [show HT.sIx z.length 0 (some 1) = min 1 z.length from HT.sIx_nat z.length 0 1, HT.sIx_none]
  have h' : z.cps.toList = c :: r := h
  rw [h', show min 1 z.length = 1 by omega, show z.length - 1 = r.length by omega]
  show List.take r.length r = r
  exact List.take_length
def spSubL : Sp := fun vs H Q _ => ∃ (x y : Str), vs = [.str x, .str y] ∧ (tl x).length ≤ 1000000 ∧ ∀ b, (b = true ↔ (tl x).Sublist (tl y)) → Q (.bl b) H
section
variable {P : Program} {w : World} {K : PySem.W.Frag} {mg : Str → Option Value} {base : Heap}
theorem scSubL : FnScope ["_law_word_here", "_law_other", "_law_letter"] ["_law_word_here", "_law_other"] (defScope sLIsSubword) := ⟨rfl, rfl, rfl, by decide +kernel, rfl, by decide +kernel, by decide +kernel⟩
theorem ok_subl (D : Df K mg "_law_is_subword" sLIsSubword ["_law_word_here", "_law_other"]) : FnOk P w K mg base CX0 1 D.f D.fd ["_law_word_here", "_law_other"] spSubL := by
  refine D.F.ok scSubL (fun vs H Q E h => ?_) (fun cdv A outer s H vs Q E hr h => ?_)
  · obtain ⟨x, y, rfl, _⟩ := h
    rfl
  · obtain ⟨x, y, rfl, xl, k⟩ := h
    have ys : y.cps.size = (tl y).length := (Array.length_toList).symm
    refine ⟨_, PSs.nox (pss_cons (ps_for PassesOwn.never rfl (pi_str (pv 1)) (pg_name (i := 2) scSubL.nd rfl (.inl rfl)) (pss_one (ps_if (pw_and (pt_cmpR op_ne (pv 0) pe_str (nomark _)) (pw_and1 (pt_cmpR op_eq (pe_ix ix_str (pv 0) pe_int (fun _ _ => rfl)) (pv 2) (nomark _)))).pt (pss_one (ps_set (i := 0) scSubL.nd rfl (.inl rfl) (pe_slice sl_str (pv 0) (po_some pe_int) po_none))) pss_nil))) (pss_one (ps_ret (pe_cmpR op_eq (pv 0) pe_str (nomark _))))), ?_⟩
    refine ⟨.str y, rfl, y, rfl, for_it walk_str (fun i σ H' => ∃ (u : Str) (y2 : Option V), σ = [some (.str u), some (.str y), y2] ∧ H' = H ∧ rem (tl u) ((tl y).drop i) = rem (tl x) (tl y) ∧ (tl u).length ≤ 1000000) ⟨x, _, rfl, rfl, rfl, xl⟩ (fun _ _ _ _ _ => trivial) ?_ ?_⟩
    · rintro i v σ G G' hi ⟨u, y2, rfl, rfl, er, ul⟩ ⟨rfl, d, hd, rfl⟩
      have hd' : (tl y)[i]? = some d := by rw [Array.getElem?_toList]; exact hd
      have us : u.length = (tl u).length := (Array.length_toList).symm
      rw [drop_at hd'] at er
      refine ⟨.str u, rfl, rfl, _, rfl, ?_⟩
      cases q : tl u with
      | nil =>
        have e : u = "" := tl_inj q
        rw [e, show (!decide (V.str "" = V.str "")) = false by simp]
        refine iteF (iteF ⟨"", _, rfl, rfl, ?_, by decide⟩)
        rw [q, rem_nil] at er
        rw [← er]
        show rem [] _ = []
        exact rem_nil _
      | cons c r =>
        rw [show (!decide (V.str u = V.str "")) = true by
          rw [decide_eq_false fun e => by
            have := V.str.inj e
            rw [this] at q
            cases q]
          rfl]
        refine iteT ?_
        rw [q] at er
        have e0 : rem (c :: r) (d :: (tl y).drop (i + 1)) = if c = d then rem r ((tl y).drop (i + 1)) else rem (c :: r) ((tl y).drop (i + 1)) := rfl
        rw [e0] at er
        refine ⟨.str u, rfl, u, 0, c, rfl, rfl, by rw [us, sizeLine_eq]; omega, at_cp (j := 0) rfl (by show (tl u)[0]? = _; rw [q]; rfl), _, rfl, rfl, _, rfl, ite2 (fun e => ?_) (fun e => ?_)⟩
        · have ec : c = d := by
            have := V.str.inj (of_decide_eq_true e)
            have := congrArg tl this
            exact (List.cons.inj this).1
          rw [if_pos ec] at er
          refine ⟨.str u, rfl, 1, rfl, u, rfl, by rw [us, sizeLine_eq]; omega, ?_⟩
          refine ⟨cutS u (some 1) none, _, rfl, rfl, by rw [cut_tail q]; exact er, ?_⟩
          rw [cut_tail q]
          rw [q, List.length_cons] at ul
          omega
        · have ec : ¬ c = d := fun z => e (decide_eq_true (by rw [z]))
          rw [if_neg ec] at er
          exact ⟨u, _, rfl, rfl, by rw [q]; exact er, ul⟩
    · rintro σ G ⟨u, y2, rfl, rfl, er, ul⟩
      rw [ys, List.drop_length] at er
      refine ⟨.str u, rfl, rfl, k _ ?_⟩
      rw [← rem_iff, ← er]
      show decide (V.str u = V.str "") = true ↔ tl u = []
      rw [decide_eq_true_eq]
      constructor
      · intro e
        rw [V.str.inj e]
        rfl
      · intro e
        have : u = "" := tl_inj e
        rw [this]
end
end DW
namespace DW
open PySem PySem.Spec PyProof.Rows L2 TL
set_option autoImplicit false
/-! ### first positions -/
def nxt (o : List Nat) (c s : Nat) : Option Nat := if s < o.length then (if o[s]? = some c then some s else nxt o c (s + 1)) else none
termination_by o.length - s
theorem nxt_eq (o : List Nat) (c s : Nat) : nxt o c s = if s < o.length then (if o[s]? = some c then some s else nxt o c (s + 1)) else none := by
  conv => lhs; unfold nxt
theorem nxt_none {o : List Nat} {c : Nat} : ∀ (n s : Nat), o.length - s = n → (∀ v, s ≤ v → o[v]? ≠ some c) → nxt o c s = none
  | 0, s, e, h => by
    rw [nxt_eq, if_neg (by omega)]
  | n + 1, s, e, h => by
    rw [nxt_eq, if_pos (by omega), if_neg (h s (Nat.le_refl _))]
    exact nxt_none n (s + 1) (by omega) fun v hv => h v (by omega)
theorem nxt_some {o : List Nat} {c p : Nat} : ∀ (n s : Nat), p - s = n → s ≤ p → o[p]? = some c → (∀ v, s ≤ v → v < p → o[v]? ≠ some c) → nxt o c s = some p
  | 0, s, e, h, hp, _ => by
    have e2 : s = p := by omega
    subst e2
    rw [nxt_eq, if_pos (List.getElem?_eq_some_iff.mp hp).1, if_pos hp]
  | n + 1, s, e, h, hp, hn => by
    have := (List.getElem?_eq_some_iff.mp hp).1
    rw [nxt_eq, if_pos (by omega), if_neg (hn s (Nat.le_refl _) (by omega))]
    exact nxt_some n (s + 1) (by omega) (by omega) hp fun v h1 h2 => hn v (by omega) h2
theorem nxt_bd {o : List Nat} {c p : Nat} : ∀ (n s : Nat), o.length - s = n → nxt o c s = some p → s ≤ p ∧ p < o.length ∧ o[p]? = some c
  | 0, s, e, h => by
    rw [nxt_eq, if_neg (by omega)] at h
    cases h
  | n + 1, s, e, h => by
    rw [nxt_eq, if_pos (by omega)] at h
    by_cases q : o[s]? = some c
    · rw [if_pos q] at h
      cases h
      exact ⟨Nat.le_refl _, by omega, q⟩
    · rw [if_neg q] at h
      obtain ⟨h1, h2, h3⟩ := nxt_bd n (s + 1) (by omega) h
      exact ⟨by omega, h2, h3⟩
def fp : List Nat → List Nat → Nat → Option (List Nat)
  | [], _, _ => some []
  | c :: w, o, s => match nxt o c s with
    | none => none
    | some p => (fp w o (p + 1)).map (p :: ·)
theorem fp_none {c s : Nat} {w o : List Nat} (h : nxt o c s = none) : fp (c :: w) o s = none := by
  unfold fp
  rw [h]
theorem fp_some {c s p : Nat} {w o : List Nat} (h : nxt o c s = some p) : fp (c :: w) o s = (fp w o (p + 1)).map (p :: ·) := by
  conv => lhs; unfold fp
  rw [h]
theorem fp_bd {o : List Nat} : ∀ (w : List Nat) (s : Nat) (ps : List Nat), fp w o s = some ps → ps.length = w.length ∧ ∀ p ∈ ps, p < o.length
  | [], s, ps, h => by
    cases (Option.some.inj h)
    exact ⟨rfl, fun p hp => (nomatch hp)⟩
  | c :: w, s, ps, h => by
    cases q : nxt o c s with
    | none =>
      rw [fp_none q] at h
      cases h
    | some p =>
      rw [fp_some q] at h
      cases e : fp w o (p + 1) with
      | none =>
        rw [e] at h
        cases h
      | some qs =>
        rw [e] at h
        cases (Option.some.inj h)
        obtain ⟨h1, h2⟩ := fp_bd w (p + 1) qs e
        refine ⟨by rw [List.length_cons, List.length_cons, h1], fun r hr => ?_⟩
        rcases List.mem_cons.mp hr with z | z
        · rw [z]
          exact (nxt_bd _ s rfl q).2.1
        · exact h2 r z
theorem nxt_drop {o : List Nat} {c : Nat} : ∀ (n s : Nat), o.length - s = n → ∀ w, (c :: w).Sublist (o.drop s) ↔ ∃ p, nxt o c s = some p ∧ w.Sublist (o.drop (p + 1))
  | 0, s, e, w => by
    rw [List.drop_of_length_le (by omega), nxt_eq, if_neg (by omega)]
    constructor
    · intro h
      cases h
    · rintro ⟨p, h, _⟩
      cases h
  | n + 1, s, e, w => by
    have hs : s < o.length := by omega
    rw [List.drop_eq_getElem_cons hs, nxt_eq, if_pos hs, List.getElem?_eq_getElem hs]
    by_cases q : o[s] = c
    · rw [if_pos (by rw [q]), q, List.cons_sublist_cons]
      constructor
      · intro h
        exact ⟨s, rfl, h⟩
      · rintro ⟨p, h, hw⟩
        cases h
        exact hw
    · rw [if_neg (fun z => q (Option.some.inj z)), ← nxt_drop n (s + 1) (by omega) w]
      constructor
      · intro h
        cases h with
        | cons _ h => exact h
        | cons_cons _ h => exact absurd rfl q
      · exact fun h => .cons _ h
theorem fp_iff {o : List Nat} : ∀ (w : List Nat) (s : Nat), (fp w o s).isSome = true ↔ w.Sublist (o.drop s)
  | [], s => by simp [fp]
  | c :: w, s => by
    rw [nxt_drop _ s rfl w]
    cases q : nxt o c s with
    | none =>
      rw [fp_none q]
      simp
    | some p =>
      rw [fp_some q]
      have ih := fp_iff (o := o) w (p + 1)
      rw [Option.isSome_map, ih]
      simp
theorem fp_iff0 (w o : List Nat) : (fp w o 0).isSome = true ↔ w.Sublist o := by
  have := fp_iff (o := o) w 0
  rw [List.drop_zero] at this
  exact this
theorem getD_at {y : Str} {k c : Nat} (h : k < y.length) : y.cps.getD k 0 = c ↔ (tl y)[k]? = some c := by
  obtain ⟨⟨l⟩⟩ := y
  have h' : k < l.length := h
  show (Array.mk l).getD k 0 = c ↔ l[k]? = some c
  rw [List.getElem?_eq_getElem h']
  simp [Array.getD, h']
theorem find_nxt (y : Str) (c s : Nat) : Txt.find3 y ⟨#[c]⟩ (s : Int) = match nxt (tl y) c s with | none => -1 | some p => (p : Int) := by
  have yl : y.length = (tl y).length := (Array.length_toList).symm
  have fi : fromIndex y.length (s : Int) = s := by
    unfold fromIndex
    rw [if_neg (by omega)]
    omega
  rcases StrLaws.find3_spec y c (s : Int) with ⟨e, h⟩ | ⟨k, e, h1, h2, h3, h4⟩
  · rw [e, nxt_none _ s rfl fun v hv hq => ?_]
    rw [fi] at h
    have lt : v < y.length := by rw [yl]; exact (List.getElem?_eq_some_iff.mp hq).1
    exact h v hv lt ((getD_at lt).mpr hq)
  · rw [fi] at h1 h4
    rw [e, nxt_some _ s rfl h1 ((getD_at h2).mp h3) fun v hv1 hv2 hq => ?_]
    exact h4 v hv1 hv2 ((getD_at (by omega)).mpr hq)
/-! ### positions as data -/
def natD (ps : List Nat) : PyData := .tuple (ps.map fun (p : Nat) => .int (p : Int))
theorem nat_dp {K : PySem.W.Frag} {H : Hp} {a : Addr} {ps : List Nat} (h : SqT K H a (ps.map fun (p : Nat) => V.int (p : Int))) : Dp K H (.ref a) (natD ps) := by
  refine .tup h ?_
  induction ps with
  | nil => exact .nil
  | cons p r ih =>
    refine .cons (.int _) ?_
    have : ∀ qs : List Nat, DpAll K H (qs.map fun (p : Nat) => V.int (p : Int)) (qs.map fun (p : Nat) => PyData.int (p : Int)) := by
      intro qs
      induction qs with
      | nil => exact .nil
      | cons q s ih => exact .cons (.int _) ih
    exact this r
theorem nat_ok : ∀ (ps : List Nat), (∀ p ∈ ps, p < 100) → PyData.canLayAll0 (ps.map fun (p : Nat) => .int (p : Int)) = true ∧ PyData.depthAll (ps.map fun (p : Nat) => .int (p : Int)) = 0 ∧ PyData.weightAll (ps.map fun (p : Nat) => .int (p : Int)) ≤ 10 * ps.length ∧
    PyData.showableAll (ps.map fun (p : Nat) => .int (p : Int)) = true ∧ PyData.hasDictAll (ps.map fun (p : Nat) => .int (p : Int)) = false ∧ PyData.intsShortAll 13 (ps.map fun (p : Nat) => .int (p : Int)) = true
  | [], _ => ⟨rfl, rfl, Nat.le_refl _, rfl, rfl, rfl⟩
  | p :: r, h => by
    obtain ⟨h1, h2, h3, h4, h5, h6⟩ := nat_ok r fun q hq => h q (List.mem_cons_of_mem _ hq)
    have hp := h p List.mem_cons_self
    have fin : ∀ n : Nat, n < 100 → (if ((n : Int) == 0) = true then 0 else (n : Int).natAbs.log2 + 1) ≤ 9 ∧ decide ((n : Int).natAbs.log2 < 1920) = true ∧ decide ((PyData.shown (.int (n : Int))).length ≤ 13) = true := by decide +kernel
    obtain ⟨f1, f2, f3⟩ := fin p hp
    rw [List.map_cons]
    refine ⟨by simp only [PyData.canLayAll0, PyData.canLay0, h1, Bool.and_self], by simp only [PyData.depthAll, PyData.depth, h2]; rfl, ?_, by simp only [PyData.showableAll, PyData.showable, f2, h4, Bool.and_self], by simp only [PyData.hasDictAll, PyData.hasDict, h5, Bool.or_self], by simp only [PyData.intsShortAll, PyData.intsShort, f3, h6, Bool.and_self]⟩
    simp only [PyData.weightAll, PyData.weight, List.length_cons]
    omega
theorem nat_shown {ps : List Nat} (h : ∀ p ∈ ps, p < 100) (hl : ps.length ≤ 1000) : (natD ps).showable = true ∧ (natD ps).hasDict = false ∧ (natD ps).depth ≤ 64 ∧ (natD ps).shown.length ≤ sizeLine := by
  obtain ⟨h1, h2, h3, h4, h5, h6⟩ := nat_ok ps h
  have d1 : (natD ps).depth = 1 := by
    unfold natD
    simp only [PyData.depth, h2]
  refine ⟨by unfold natD; simp only [PyData.showable, h4], by unfold natD; simp only [PyData.hasDict, h5], by omega, ?_⟩
  have lay : PyData.layable0 (natD ps) = true := by
    unfold PyData.layable0
    rw [Bool.and_eq_true, Bool.and_eq_true]
    refine ⟨⟨by unfold natD; simp only [PyData.canLay0, h1], decide_eq_true (by omega)⟩, decide_eq_true ?_⟩
    unfold natD
    simp only [PyData.weight]
    omega
  have := shown_le13 lay (by unfold natD; simp only [PyData.intsShort, h6])
  rw [sizeLine_eq]
  omega
/-! ### all subwords -/
theorem sub_snoc {u l : List Nat} {c : Nat} : u.Sublist (l ++ [c]) ↔ u.Sublist l ∨ ∃ v, u = v ++ [c] ∧ v.Sublist l := by
  rw [List.sublist_append_iff]
  constructor
  · rintro ⟨a, b, rfl, h1, h2⟩
    cases h2 with
    | cons _ h =>
      rw [List.sublist_nil.mp h, List.append_nil]
      exact .inl h1
    | cons_cons _ h =>
      rw [List.sublist_nil.mp h]
      exact .inr ⟨a, rfl, h1⟩
  · rintro (h | ⟨v, rfl, h⟩)
    · exact ⟨u, [], by simp, h, List.nil_sublist _⟩
    · exact ⟨v, [c], rfl, h, List.Sublist.refl _⟩
theorem in_strs (x : Str) (ws : List Str) : inV (.str x) (ws.map V.str) = decide (x ∈ ws) := by
  unfold inV
  rw [List.any_map, Bool.eq_iff_iff, List.any_eq_true, decide_eq_true_eq]
  constructor
  · rintro ⟨y, hy, e⟩
    have : y = x := by simpa [eqV] using e
    rw [← this]
    exact hy
  · intro h
    exact ⟨x, h, by simp [eqV]⟩
theorem flat_strs (ws : List Str) : (ws.map V.str).all flatV = true := by
  rw [List.all_map, List.all_eq_true]
  intro y _
  rfl
def spFp (K : PySem.W.Frag) : Sp := fun vs H Q _ => ∃ (x y : Str), vs = [.str x, .str y] ∧ (tl x).length ≤ 1000 ∧ (tl y).length ≤ 1000 ∧ ∀ H', Same H H' → (fp (tl x) (tl y) 0 = none → Q .non H') ∧ ∀ ps p, fp (tl x) (tl y) 0 = some ps → SqT K H' p (ps.map fun (n : Nat) => V.int (n : Int)) → Q (.ref p) H'
def spSubP : Sp := fun vs H Q _ => ∃ (x y : Str), vs = [.str x, .str y] ∧ (tl x).length ≤ 1000 ∧ (tl y).length ≤ 1000 ∧ ∀ H' b, Same H H' → (b = true ↔ (tl x).Sublist (tl y)) → Q (.bl b) H'
def spAll : Sp := fun vs H Q _ => ∃ (y : Str), vs = [.str y] ∧ (tl y).length ≤ 7 ∧ ∀ H' l (ws : List Str), Same H H' → H' l = some (.lst (ws.map V.str)) → (∀ u : Str, u ∈ ws ↔ (tl u).Sublist (tl y)) → Q (.ref l) H'
section
variable {P : Program} {w : World} {K : PySem.W.Frag} {mg : Str → Option Value} {base : Heap}
theorem scFp : FnScope ["word", "other", "positions", "start", "letter", "place"] ["word", "other"] (defScope sFirstPositions) := ⟨rfl, rfl, rfl, by decide +kernel, rfl, by decide +kernel, by decide +kernel⟩
theorem ok_fp (D : Df K mg "first_positions" sFirstPositions ["word", "other"]) (mt : mg "tuple" = none) : FnOk P w K mg base CX0 1 D.f D.fd ["word", "other"] (spFp K) := by
  refine D.F.ok scFp (fun vs H Q E h => ?_) (fun cdv A outer s H vs Q E hr h => ?_)
  · obtain ⟨x, y, rfl, _⟩ := h
    rfl
  · obtain ⟨x, y, rfl, xl, yl, k⟩ := h
    have xs : x.cps.size = (tl x).length := (Array.length_toList).symm
    refine ⟨_, PSs.nox (pss_cons (ps_set (i := 2) scFp.nd rfl (.inl rfl) (pe_lst pa_nil)) (pss_cons (ps_set (i := 3) scFp.nd rfl (.inl rfl) pe_int) (pss_cons (ps_for PassesOwn.never rfl (pi_str (pv 0)) (pg_name (i := 4) scFp.nd rfl (.inl rfl)) (pss_cons (ps_set (i := 5) scFp.nd rfl (.inl rfl) (pe_bm PySem.F.plainAttrs_str PySem.F.slot_str_find PySem.F.type_str_find mt_find3 (pv 1) (pa_cons (pv 4) (pa_cons (pv 3) pa_nil)))) (pss_cons (ps_if (pt_cmpR op_lt (pv 5) pe_int (nomark _)) (pss_one (ps_ret pe_non)) pss_nil) (pss_cons (ps_expr (pe_bm PySem.F.plainAttrs_list PySem.F.slot_list_append PySem.F.type_list_append mt_append (pv 2) (pa_cons (pv 5) pa_nil))) (pss_one (ps_set (i := 3) scFp.nd rfl (.inl rfl) (pe_op op_add (pv 5) pe_int))))))) (pss_one (ps_ret (pe_callTy call_tuple_of (by rfl) mt (by decide +kernel) (pa_cons (pv 2) pa_nil))))))), ?_⟩
    refine ⟨Nat.zero_le _, fun l hl => ?_⟩
    have sl := same_upd (o := .lst []) hl
    refine ⟨.str x, rfl, x, rfl, for_it walk_str (fun i σ H' => ∃ (ps : List Nat) (st : Nat) (y4 y5 : Option V), σ = [some (.str x), some (.str y), some (.ref l), some (.int st), y4, y5] ∧ H' l = some (.lst (ps.map fun (n : Nat) => V.int (n : Int))) ∧ ps.length = i ∧ fp (tl x) (tl y) 0 = (fp ((tl x).drop i) (tl y) st).map (ps ++ ·) ∧ Same H H')
      ⟨[], 0, _, _, rfl, upd_same, rfl, by simp, sl⟩ (fun _ _ _ _ _ => trivial) ?_ ?_⟩
    · rintro i v σ G G' hi ⟨ps, st, y4, y5, rfl, gl, pl, ef, sm⟩ ⟨rfl, d, hd, rfl⟩
      have hd' : (tl x)[i]? = some d := by rw [Array.getElem?_toList]; exact hd
      rw [drop_at hd'] at ef
      refine ⟨.str y, rfl, rfl, _, rfl, .int st, rfl, y, ⟨#[d]⟩, (st : Int), rfl, rfl, ?_⟩
      rw [find_nxt]
      cases q : nxt (tl y) d st with
      | none =>
        rw [fp_none q] at ef
        refine ⟨_, rfl, -1, 0, rfl, rfl, _, rfl, ?_⟩
        rw [show decide ((-1 : Int) < 0) = true by decide]
        refine iteT ?_
        exact (k _ sm).1 ef
      | some p =>
        rw [fp_some q] at ef
        obtain ⟨b1, b2, b3⟩ := nxt_bd _ st rfl q
        refine ⟨_, rfl, (p : Int), 0, rfl, rfl, _, rfl, ?_⟩
        rw [show decide ((p : Int) < 0) = false from decide_eq_false (by omega)]
        refine iteF ?_
        refine ⟨.ref l, rfl, .inl ⟨rfl, _, SqL.of gl⟩, .int p, rfl, l, _, _, rfl, rfl, gl, ?_, ?_⟩
        · rw [List.length_map, pl, sizeLine_eq]
          omega
        refine ⟨.int p, rfl, (p : Int), 1, rfl, rfl, ?_⟩
        refine ⟨ps ++ [p], p + 1, _, _, rfl, by rw [upd_same, List.map_append]; rfl, by rw [List.length_append, pl]; rfl, ?_, fun b o e => (upd_ne (ne_of_none e hl)).trans (sm _ _ e)⟩
        rw [ef, Option.map_map]
        congr 1
        funext z
        simp
    · rintro σ G ⟨ps, st, y4, y5, rfl, gl, pl, ef, sm⟩
      rw [xs, List.drop_length] at ef
      have ef' : fp (tl x) (tl y) 0 = some ps := by
        rw [ef]
        simp [fp]
      refine ⟨.ref l, rfl, l, _, rfl, .inl ⟨SqL.of gl, fun p hp => ?_⟩⟩
      exact (k _ (sm.trans (same_upd hp))).2 ps p ef' (SqT.of upd_same)
theorem scSubP : FnScope ["word", "other"] ["word", "other"] (defScope sIsSubword) := ⟨rfl, rfl, rfl, by decide +kernel, rfl, by decide +kernel, by decide +kernel⟩
theorem ok_subp (D : Df K mg "is_subword" sIsSubword ["word", "other"]) (Df0 : Df K mg "first_positions" sFirstPositions ["word", "other"]) (mt : mg "tuple" = none) : FnOk P w K mg base CX0 2 D.f D.fd ["word", "other"] spSubP := by
  have Gf : FnOk P w K mg base CX0 1 Df0.f Df0.fd ["word", "other"] (spFp K) := ok_fp Df0 mt
  refine D.F.ok scSubP (fun vs H Q E h => ?_) (fun cdv A outer s H vs Q E hr h => ?_)
  · obtain ⟨x, y, rfl, _⟩ := h
    rfl
  · obtain ⟨x, y, rfl, xl, yl, k⟩ := h
    refine ⟨_, (pss_one (ps_ret (pe_cmpR op_notN (pe_call Gf hr (by rfl) Df0.g Df0.F.kp Df0.b .nil pass0 (pa_cons (pv 0) (pa_cons (pv 1) pa_nil))) pe_non (nomark _)))), ?_⟩
    refine ⟨.str x, rfl, .str y, rfl, x, y, rfl, xl, yl, fun H' sm => ⟨fun e => ⟨rfl, k _ _ sm ?_⟩, fun ps p e hp => ⟨rfl, k _ _ sm ?_⟩⟩⟩
    · rw [← fp_iff0, e]
      simp
    · rw [← fp_iff0, e]
      simp
end
end DW
/-! all words up to a length, each of them, in their order -/
namespace DW
open PySem PySem.Spec PyProof.Rows L2 TL
set_option autoImplicit false
def wordsE (cs : List Nat) : Nat → List (List Nat)
  | 0 => [[]]
  | n + 1 => ((wordsE cs n).map fun w => cs.map fun c => w ++ [c]).flatten
def allW (cs : List Nat) : Nat → List (List Nat)
  | 0 => [[]]
  | n + 1 => allW cs n ++ wordsE cs (n + 1)
def spWords : Sp := fun vs H Q _ => ∃ (z : Str) (m : Int), vs = [.str z, .int m] ∧ Alph z ∧ 0 ≤ m ∧ m ≤ 9 ∧
  ∀ H' l (ws : List Str), Same H H' → H l = none → H' l = some (.lst (ws.map V.str)) → (∀ u ∈ ws, (tl u).length ≤ 9 ∧ OverW z u) → ws.length ≤ 40000 → ws.map tl = allW (tl z) m.toNat → Q (.ref l) H'
section
variable {P : Program} {w : World} {K : PySem.W.Frag} {mg : Str → Option Value} {base : Heap}
theorem scWords : FnScope ["_law_alphabet_here", "_law_longest", "_law_found", "_law_last", "_law_k", "_law_longer", "_law_word_here", "_law_letter"] ["_law_alphabet_here", "_law_longest"] (defScope sLWords) := ⟨rfl, rfl, rfl, by decide +kernel, rfl, by decide +kernel, by decide +kernel⟩
theorem ok_words (D : Df K mg "_law_words" sLWords ["_law_alphabet_here", "_law_longest"]) (B : Bl mg) : FnOk P w K mg base CX0 1 D.f D.fd ["_law_alphabet_here", "_law_longest"] spWords := by
  refine D.F.ok scWords (fun vs H Q E h => ?_) (fun cdv A outer s H vs Q E hr h => ?_)
  · obtain ⟨z, m, rfl, _⟩ := h
    rfl
  · obtain ⟨z, m, rfl, al, m0, m4, k⟩ := h
    have zs : z.cps.size = (tl z).length := (Array.length_toList).symm
    refine ⟨_, PSs.nox (pss_cons (ps_par (i := 2) (j := 3) rfl scWords.nd rfl rfl (by decide) rfl rfl (pa_cons (pe_lst (pa_cons pe_str pa_nil)) (pa_cons (pe_lst (pa_cons pe_str pa_nil)) pa_nil)) (by rfl))
      (pss_cons (ps_for PassesOwn.never rfl (pi_range1 rfl B.range (pa_cons (pv 1) pa_nil)) (pg_name (i := 4) scWords.nd rfl (.inl rfl))
        (pss_cons (ps_set (i := 5) scWords.nd rfl (.inl rfl) (pe_lst pa_nil))
        (pss_cons (ps_for PassesOwn.never rfl (pi_list (pv 3)) (pg_name (i := 6) scWords.nd rfl (.inr rfl))
          (pss_one (ps_expr (pe_bm PySem.F.plainAttrs_list PySem.F.slot_list_extend PySem.F.type_list_extend mt_extend (pv 5) (pa_cons
            (pe_lc (own := [("_law_letter", 7)]) (g := gName 7) rfl scWords.nd (pi_str (pv 0)) (blkOk_by (N := ["_law_alphabet_here", "_law_longest", "_law_found", "_law_last", "_law_k", "_law_longer", "_law_word_here", "_law_letter"]) (sc := defScope sLWords) (by decide +kernel))
              (fun _ _ _ _ _ => pg_name (i := 7) scWords.nd rfl (Or.inl rfl)) (fun _ _ _ _ _ => pts_nil) (fun _ _ _ _ _ => pe_op op_add_str (pv 6) (pv 7))) pa_nil)))))
        (pss_one (ps_par (i := 2) (j := 3) rfl scWords.nd rfl rfl (by decide) rfl rfl (pa_cons (pe_op op_cat (pv 2) (pv 5)) (pa_cons (pv 5) pa_nil)) (by rfl))))))
      (pss_one (ps_ret (pv 2))))), ?_⟩
    refine ⟨by show 1 ≤ sizeLine; decide, fun l1 e1 => ⟨by show 1 ≤ sizeLine; decide, fun l2 e2 => ⟨_, _, rfl, ?_⟩⟩⟩
    have s1 := same_upd (o := .lst [V.str ""]) e1
    have s2 := same_upd (o := .lst [V.str ""]) e2
    have p81 : ∀ i : Nat, i ≤ 9 → 3 ^ i ≤ 19683 := fun i hi => Nat.pow_le_pow_right (n := 3) (by decide) hi
    refine ⟨.int m, rfl, m, rfl, by omega, by omega, for_it (n := m.toNat) walk_range (fun i σ H' => ∃ (lf ll : Addr) (fw lw : List Str) (y4 y5 y6 : Option V), σ = [some (.str z), some (.int m), some (.ref lf), some (.ref ll), y4, y5, y6, none] ∧
      H' lf = some (.lst (fw.map V.str)) ∧ H' ll = some (.lst (lw.map V.str)) ∧ (∀ u ∈ lw, (tl u).length = i ∧ OverW z u) ∧ (∀ u ∈ fw, (tl u).length ≤ i ∧ OverW z u) ∧ lw.length ≤ 3 ^ i ∧ fw.length ≤ 2 * 3 ^ i ∧ Same H H' ∧ H lf = none ∧ lw.map tl = wordsE (tl z) i ∧ fw.map tl = allW (tl z) i)
      ⟨l1, l2, [""], [""], _, _, _, rfl, s2 _ _ upd_same, upd_same, ?_, ?_, by decide, by decide, s1.trans s2, e1, rfl, rfl⟩ (fun _ _ _ _ _ => trivial) ?_ ?_⟩
    · intro u hu
      rw [List.mem_singleton.mp hu]
      exact ⟨rfl, fun c hc => (nomatch hc)⟩
    · intro u hu
      rw [List.mem_singleton.mp hu]
      exact ⟨Nat.le_refl _, fun c hc => (nomatch hc)⟩
    · rintro i x σ G G' hi ⟨lf, ll, fw, lw, y4, y5, y6, rfl, gf, gl, hlw, hfw, cl, cf, sm, lf0, xl, xf⟩ ⟨rfl, rfl⟩
      have t81 := p81 i (by omega)
      refine ⟨Nat.zero_le _, fun g hg => ?_⟩
      have sg := same_upd (o := .lst []) hg
      have g0 : H g = none := sm.free hg
      have nfg : lf ≠ g := ne_of_none gf hg
      have nlg : ll ≠ g := ne_of_none gl hg
      refine ⟨.ref ll, rfl, ll, rfl, ⟨_, SqL.of (sg _ _ gl)⟩, for_it (walk_list (xs := lw.map V.str)) (fun j σ H' => ∃ (gw : List Str) (y6 : Option V), σ = [some (.str z), some (.int m), some (.ref lf), some (.ref ll), some (.int (0 + (i : Int))), some (.ref g), y6, none] ∧
        H' g = some (.lst (gw.map V.str)) ∧ H' lf = some (.lst (fw.map V.str)) ∧ H' ll = some (.lst (lw.map V.str)) ∧ (∀ u ∈ gw, (tl u).length = i + 1 ∧ OverW z u) ∧ gw.length ≤ 3 * j ∧ Same H H' ∧ gw.map tl = (((wordsE (tl z) i).take j).map fun w => (tl z).map fun c => w ++ [c]).flatten)
        ⟨[], _, rfl, upd_same, sg _ _ gf, sg _ _ gl, fun u hu => (nomatch hu), Nat.zero_le _, sm.trans sg, rfl⟩ (fun _ _ _ _ ⟨_, _, _, _, _, h, _⟩ => SqL.of h) ?_ ?_⟩
      · rintro j x σ G1 G2 hj ⟨gw, y6, rfl, g1, g2, g3, hgw, cg, sm1, xg⟩ ⟨rfl, hx⟩
        rw [List.length_map] at hj
        obtain ⟨u, hu, rfl⟩ : ∃ u, lw[j]? = some u ∧ x = V.str u := by
          rw [List.getElem?_map] at hx
          cases q : lw[j]? with
          | none => rw [q] at hx; cases hx
          | some u => rw [q] at hx; exact ⟨u, rfl, (Option.some.inj hx).symm⟩
        have um := hlw u (List.mem_of_getElem? hu)
        have hu' : (wordsE (tl z) i)[j]? = some (tl u) := by rw [← xl, List.getElem?_map, hu]; rfl
        refine ⟨.ref g, rfl, .inl ⟨rfl, _, SqL.of g1⟩, .str z, rfl, z, rfl, fun D hD => ?_⟩
        have sD := same_upd (o := .lst []) hD
        have nD1 : g ≠ D := ne_of_none g1 hD
        have nD2 : lf ≠ D := ne_of_none g2 hD
        have nD3 : ll ≠ D := ne_of_none g3 hD
        have D0 : H D = none := sm1.free hD
        refine lc_it walk_str (fun n H' => ∃ ds : List Str, H' D = some (.lst (ds.map V.str)) ∧ ds.length = n ∧ (∀ v ∈ ds, (tl v).length = i + 1 ∧ OverW z v) ∧ H' g = some (.lst (gw.map V.str)) ∧ H' lf = some (.lst (fw.map V.str)) ∧ H' ll = some (.lst (lw.map V.str)) ∧ Same H H' ∧ ds.map tl = ((tl z).take n).map fun c => tl u ++ [c]) ?_ (fun _ _ _ _ => trivial) ?_ ?_
        · exact ⟨[], upd_same, rfl, fun v hv => (nomatch hv), sD _ _ g1, sD _ _ g2, sD _ _ g3, sm1.trans sD, rfl⟩
        · rintro n x G3 G4 hn ⟨ds, h1, dl, h2, h3, h4, h5, sm3, xd⟩ ⟨rfl, d, hd, rfl⟩
          have dm : d ∈ tl z := List.mem_of_getElem? (i := n) (by rw [Array.getElem?_toList]; exact hd)
          refine ⟨rfl, yes ?_⟩
          refine ⟨_, rfl, _, rfl, u, ⟨#[d]⟩, rfl, rfl, ?_, _, h1, ?_, ds ++ [u ++ (⟨#[d]⟩ : Str)], by rw [upd_same, List.map_append]; rfl, by rw [List.length_append, dl]; rfl, fun v hv => ?_, (upd_ne nD1).trans h3, (upd_ne nD2).trans h4, (upd_ne nD3).trans h5, fun b o e => (upd_ne (ne_of_none e D0)).trans (sm3 _ _ e), ?_⟩
          · have : u.length = i := by rw [← um.1]; exact (Array.length_toList).symm
            rw [this, sizeLine_eq]
            show i + 1 ≤ _
            omega
          · rw [List.length_map, dl, sizeLine_eq]
            have := al.2.2.1
            omega
          · rcases List.mem_append.mp hv with q | q
            · exact h2 v q
            · rw [List.mem_singleton.mp q]
              refine ⟨by rw [tl_app, List.length_append, um.1]; rfl, fun c hc => ?_⟩
              rw [tl_app] at hc
              rcases List.mem_append.mp hc with q | q
              · exact um.2 c q
              · rw [List.mem_singleton.mp q]
                exact dm
          · have hd' : (tl z)[n]? = some d := by simpa using hd
            rw [List.take_add_one, hd', List.map_append, List.map_append, xd]
            show _ ++ [tl (u ++ (⟨#[d]⟩ : Str))] = _
            rw [tl_app]
            rfl
        · rintro G3 ⟨ds, h1, dl, h2, h3, h4, h5, sm3, xd⟩
          have l3 := al.2.2.1
          refine ⟨g, D, _, _, rfl, rfl, h3, h1, ?_, gw ++ ds, _, rfl, by rw [upd_same, List.map_append], (upd_ne nfg).trans h4, (upd_ne nlg).trans h5, fun v hv => ?_, by rw [List.length_append, dl]; omega, fun b o e => (upd_ne (ne_of_none e g0)).trans (sm3 _ _ e), ?_⟩
          · rw [List.length_map, List.length_map, dl, sizeLine_eq]
            omega
          · rcases List.mem_append.mp hv with q | q
            · exact hgw v q
            · exact h2 v q
          · have et : (tl z).take z.cps.size = tl z := List.take_of_length_le (by rw [Array.length_toList]; exact Nat.le_refl _)
            rw [et] at xd
            rw [List.map_append, xg, xd, List.take_add_one, hu', List.map_append, List.flatten_append]
            simp
      · rintro σ H' ⟨gw, y6, rfl, g1, g2, g3, hgw, cg, sm1, xg⟩
        rw [List.length_map] at cg
        have ll' : lw.length = (wordsE (tl z) i).length := by rw [← xl, List.length_map]
        rw [List.length_map, ll', List.take_length] at xg
        have xg : gw.map tl = wordsE (tl z) (i + 1) := xg
        refine ⟨.ref lf, rfl, .ref g, rfl, lf, g, _, _, rfl, rfl, g2, g1, ?_, fun p hp => ⟨.ref g, rfl, _, _, rfl, ?_⟩⟩
        · rw [List.length_map, List.length_map, sizeLine_eq]
          omega
        have sp := same_upd (o := .lst (fw.map V.str ++ gw.map V.str)) hp
        refine ⟨p, g, fw ++ gw, gw, _, _, _, rfl, by rw [upd_same, List.map_append], sp _ _ g1, hgw, fun v hv => ?_, ?_, ?_, sm1.trans sp, sm1.free hp, xg, by rw [List.map_append, xf, xg]; rfl⟩
        · rcases List.mem_append.mp hv with q | q
          · exact ⟨Nat.le_succ_of_le (hfw v q).1, (hfw v q).2⟩
          · exact ⟨Nat.le_of_eq (hgw v q).1, (hgw v q).2⟩
        · rw [Nat.pow_succ]
          omega
        · rw [List.length_append, Nat.pow_succ]
          omega
    · rintro σ H' ⟨lf, ll, fw, lw, y4, y5, y6, rfl, gf, gl, hlw, hfw, cl, cf, sm, lf0, xl, xf⟩
      have t81 := p81 m.toNat (by omega)
      exact ⟨_, rfl, k _ lf fw sm lf0 gf (fun u hu => ⟨Nat.le_trans (hfw u hu).1 (by omega), (hfw u hu).2⟩) (by omega) xf⟩
end
end DW
/-! Lists of texts in shortlex order, and the ones that hold no other -/
namespace DW
open PySem PySem.Spec PyProof.Rows L2 TL
set_option autoImplicit false
theorem asc_of : ∀ ys : List Str, ys.Nodup → sortedS ys = true → ys.Pairwise (fun a b => tl a < tl b)
  | [], _, _ => List.Pairwise.nil
  | [y], _, _ => List.pairwise_singleton _ _
  | y :: z :: r, nd, so => by
    obtain ⟨hy, nd'⟩ := List.nodup_cons.mp nd
    have so' : (!ltCps (tl z) (tl y) && risingS z r) = true := so
    rw [Bool.and_eq_true] at so'
    have pw := asc_of (z :: r) nd' so'.2
    have lt : tl y < tl z := by
      have q := so'.1
      rw [ltCps_eq] at q
      have n1 : ¬ tl z < tl y := by simpa using q
      have n2 : tl y ≠ tl z := fun e => hy (by
        have e' : y = z := by
          cases y
          cases z
          exact congrArg Str.mk (Array.toList_inj.mp e)
        rw [e']
        exact List.mem_cons_self)
      rcases List.le_total (tl y) (tl z) with h | h
      · rcases Decidable.em (tl y < tl z) with g | g
        · exact g
        · exact absurd (List.le_antisymm h g) n2
      · exact absurd (List.le_antisymm (n1 : tl y ≤ tl z) h) n2
    refine List.pairwise_cons.mpr ⟨fun u hu => ?_, pw⟩
    rcases List.mem_cons.mp hu with q | q
    · rw [q]
      exact lt
    · exact List.lt_trans lt ((List.pairwise_cons.mp pw).1 u q)
theorem asc_uniq : ∀ (l m : List Str), l.Pairwise (fun a b => tl a < tl b) → m.Pairwise (fun a b => tl a < tl b) → (∀ k, k ∈ l ↔ k ∈ m) → l = m
  | [], [], _, _, _ => rfl
  | [], b :: m, _, _, h => by
    have := (h b).mpr List.mem_cons_self
    cases this
  | a :: l, [], _, _, h => by
    have := (h a).mp List.mem_cons_self
    cases this
  | a :: l, b :: m, p, q, h => by
    obtain ⟨pa, p'⟩ := List.pairwise_cons.mp p
    obtain ⟨qb, q'⟩ := List.pairwise_cons.mp q
    have ab : a = b := by
      rcases List.mem_cons.mp ((h a).mp List.mem_cons_self) with e | e
      · exact e
      · rcases List.mem_cons.mp ((h b).mpr List.mem_cons_self) with f | f
        · exact f.symm
        · exact absurd (List.lt_trans (pa b f) (qb a e)) (List.lt_irrefl _)
    subst ab
    have e := asc_uniq l m p' q' fun k => by
      constructor
      · intro hk
        rcases List.mem_cons.mp ((h k).mp (List.mem_cons_of_mem _ hk)) with e | e
        · rw [e] at hk
          exact absurd (pa a hk) (List.lt_irrefl _)
        · exact e
      · intro hk
        rcases List.mem_cons.mp ((h k).mpr (List.mem_cons_of_mem _ hk)) with e | e
        · rw [e] at hk
          exact absurd (qb a hk) (List.lt_irrefl _)
        · exact e
    rw [e]
/-- the words of a list, each once, in shortlex order -/
structure Slx (ws ys : List Str) : Prop where
  mem : ∀ k, k ∈ ys ↔ k ∈ ws
  pw : ys.Pairwise (fun a b => (tl a).length ≤ (tl b).length)
  src : ∃ zs : List Str, ys = SL.byLen zs ∧ zs.Pairwise (fun a b => tl a < tl b) ∧ (∀ k, k ∈ zs ↔ k ∈ ws)
theorem leLen_eq : SL.leLen = fun a b : Str => decide ((tl a).length ≤ (tl b).length) := by
  unfold SL.leLen
  rw [PySem.W.dataLe_int]
  funext a b
  have e : ∀ x : Str, x.length = (tl x).length := fun x => (Array.length_toList).symm
  rw [e a, e b]
  simp
theorem slx_of {ws ls ys : List Str} (nd : ls.Nodup) (mem : ∀ k, k ∈ ls ↔ k ∈ ws) (pm : ys.Perm ls) (so : sortedS ys = true) : Slx ws (SL.byLen ys) := by
  have m2 : ∀ k, k ∈ ys ↔ k ∈ ws := fun k => (pm.mem_iff).trans (mem k)
  refine ⟨fun k => ?_, ?_, ys, rfl, asc_of ys (pm.nodup_iff.mpr nd) so, m2⟩
  · unfold SL.byLen
    rw [(List.mergeSort_perm _ _).mem_iff]
    exact m2 k
  · unfold SL.byLen
    rw [leLen_eq]
    have := List.pairwise_mergeSort (le := fun a b : Str => decide ((tl a).length ≤ (tl b).length)) (fun a b c h1 h2 => by simp at *; omega) (fun a b => by simp; omega) ys
    exact this.imp fun h => of_decide_eq_true h
theorem slx_uniq {ws ys ys' : List Str} (h : Slx ws ys) (h' : Slx ws ys') : ys = ys' := by
  obtain ⟨zs, rfl, p, m⟩ := h.src
  obtain ⟨zs', rfl, p', m'⟩ := h'.src
  rw [asc_uniq zs zs' p p' fun k => (m k).trans (m' k).symm]
/-! ### words that hold no other -/
def holdsB (w u : Str) : Bool := !decide (u = w) && (tl u).isSublist (tl w)
def kept (ws : List Str) (w : Str) : Bool := (ws.filter (holdsB w)).isEmpty
def propB (w u : Str) : Bool := decide ((tl u).length < (tl w).length) && (tl u).isSublist (tl w)
theorem tl_inj' {x y : Str} (h : tl x = tl y) : x = y := by
  cases x
  cases y
  exact congrArg Str.mk (Array.toList_inj.mp h)
theorem holds_iff {w u : Str} : holdsB w u = true ↔ u ≠ w ∧ (tl u).Sublist (tl w) := by
  unfold holdsB
  rw [Bool.and_eq_true, List.isSublist_iff_sublist]
  simp
theorem prop_iff {w u : Str} : propB w u = true ↔ (tl u).length < (tl w).length ∧ (tl u).Sublist (tl w) := by
  unfold propB
  rw [Bool.and_eq_true, List.isSublist_iff_sublist, decide_eq_true_eq]
theorem holds_prop (w u : Str) : holdsB w u = propB w u := by
  rw [Bool.eq_iff_iff, holds_iff, prop_iff]
  constructor
  · rintro ⟨ne, s⟩
    refine ⟨Nat.lt_of_le_of_ne s.length_le fun e => ne (tl_inj' (s.eq_of_length e)), s⟩
  · rintro ⟨lt, s⟩
    exact ⟨fun e => by rw [e] at lt; omega, s⟩
theorem kept_iff {ws : List Str} {w : Str} : kept ws w = true ↔ ∀ u ∈ ws, propB w u = false := by
  unfold kept
  rw [List.isEmpty_iff, List.filter_eq_nil_iff]
  constructor
  · intro h u hu
    have := h u hu
    rw [holds_prop] at this
    simpa using this
  · intro h u hu
    rw [holds_prop, h u hu]
    simp
theorem kept_under (ws : List Str) : ∀ (n : Nat) (u : Str), (tl u).length = n → u ∈ ws → ∃ v ∈ ws, kept ws v = true ∧ (tl v).Sublist (tl u) := by
  intro n
  induction n using Nat.strongRecOn with
  | ind n ih =>
    intro u hn hu
    by_cases k : kept ws u = true
    · exact ⟨u, hu, k, List.Sublist.refl _⟩
    · have k' := fun q => k (kept_iff.mpr q)
      obtain ⟨x, hx, px⟩ : ∃ x ∈ ws, propB u x = true := by
        refine Classical.byContradiction fun c => k' fun x hx => ?_
        cases e : propB u x with
        | false => rfl
        | true => exact absurd ⟨x, hx, e⟩ c
      obtain ⟨lt, s⟩ := prop_iff.mp px
      obtain ⟨v, hv, kv, sv⟩ := ih (tl x).length (by omega) x rfl hx
      exact ⟨v, hv, kv, sv.trans s⟩
theorem kept_step {ws zs : List Str} {i : Nat} {w : Str} (S : Slx ws zs) (hw : zs[i]? = some w) : ((zs.take i).filter (kept ws)).any (propB w) = !kept ws w := by
  have hi : i < zs.length := (List.getElem?_eq_some_iff.mp hw).1
  have ez : zs = zs.take i ++ w :: zs.drop (i + 1) := by
    have e := (List.getElem?_eq_some_iff.mp hw).2
    rw [← e, ← List.drop_eq_getElem_cons hi, List.take_append_drop]
  cases k : kept ws w with
  | true =>
    have k' := kept_iff.mp k
    rw [Bool.not_true, List.any_eq_false]
    intro s hs
    have := List.mem_of_mem_take (List.mem_filter.mp hs).1
    rw [k' s ((S.mem s).mp this)]
    simp
  | false =>
    rw [Bool.not_false, List.any_eq_true]
    obtain ⟨u, hu, pu⟩ : ∃ u ∈ ws, propB w u = true := by
      refine Classical.byContradiction fun c => ?_
      have := kept_iff (ws := ws) (w := w) |>.mpr fun x hx => by
        cases e : propB w x with
        | false => rfl
        | true => exact absurd ⟨x, hx, e⟩ c
      rw [k] at this
      cases this
    obtain ⟨lt, s⟩ := prop_iff.mp pu
    obtain ⟨v, hv, kv, sv⟩ := kept_under ws _ u rfl hu
    have lv : (tl v).length < (tl w).length := Nat.lt_of_le_of_lt sv.length_le lt
    refine ⟨v, List.mem_filter.mpr ⟨?_, kv⟩, prop_iff.mpr ⟨lv, sv.trans s⟩⟩
    have vz := (S.mem v).mpr hv
    have pw := S.pw
    rw [ez] at vz pw
    rcases List.mem_append.mp vz with q | q
    · exact q
    · exfalso
      have p2 := (List.pairwise_append.mp pw).2.1
      rcases List.mem_cons.mp q with e | e
      · rw [e] at lv
        omega
      · have := (List.pairwise_cons.mp p2).1 v e
        omega
/-! ### a list of texts as data -/
def strD (ws : List Str) : PyData := .list (ws.map PyData.str)
theorem str_dpAll {K : PySem.W.Frag} {H : Hp} : ∀ ws : List Str, DpAll K H (ws.map V.str) (ws.map PyData.str)
  | [] => .nil
  | x :: r => .cons (.str _) (str_dpAll r)
theorem str_dp {K : PySem.W.Frag} {H : Hp} {a : Addr} {ws : List Str} (h : SqL K H a (ws.map V.str)) : Dp K H (.ref a) (strD ws) := .lst h (str_dpAll ws)
theorem str_ok : ∀ (ws : List Str), (∀ u ∈ ws, (tl u).length ≤ 20 ∧ ∀ c ∈ tl u, c < 128) → PyData.canLayAll0 (ws.map PyData.str) = true ∧ PyData.depthAll (ws.map PyData.str) = 0 ∧ PyData.weightAll (ws.map PyData.str) ≤ 21 * ws.length ∧
    PyData.showableAll (ws.map PyData.str) = true ∧ PyData.hasDictAll (ws.map PyData.str) = false ∧ PyData.intsShortAll 13 (ws.map PyData.str) = true
  | [], _ => ⟨rfl, rfl, Nat.le_refl _, rfl, rfl, rfl⟩
  | u :: r, h => by
    obtain ⟨h1, h2, h3, h4, h5, h6⟩ := str_ok r fun q hq => h q (List.mem_cons_of_mem _ hq)
    obtain ⟨ul, uc⟩ := h u List.mem_cons_self
    have us : u.cps.size = (tl u).length := (Array.length_toList).symm
    have so : PyData.strOk u = true := by
      unfold PyData.strOk
      rw [Array.all_eq_true]
      intro i hi
      have := uc u.cps[i] (by show u.cps[i] ∈ u.cps.toList; rw [Array.mem_toList_iff]; exact Array.getElem_mem hi)
      exact decide_eq_true (by omega)
    rw [List.map_cons]
    refine ⟨by simp only [PyData.canLayAll0, PyData.canLay0, so, h1, Bool.and_self], by simp only [PyData.depthAll, PyData.depth, h2]; rfl, ?_, by simp only [PyData.showableAll, PyData.showable, h4, Bool.and_self], by simp only [PyData.hasDictAll, PyData.hasDict, h5, Bool.or_self], by simp only [PyData.intsShortAll, PyData.intsShort, h6, Bool.and_self]⟩
    simp only [PyData.weightAll, PyData.weight, List.length_cons]
    omega
theorem str_shown {ws : List Str} (h : ∀ u ∈ ws, (tl u).length ≤ 20 ∧ ∀ c ∈ tl u, c < 128) (hl : ws.length ≤ 1000) : (strD ws).showable = true ∧ (strD ws).hasDict = false ∧ (strD ws).depth ≤ 64 ∧ (strD ws).shown.length ≤ sizeLine := by
  obtain ⟨h1, h2, h3, h4, h5, h6⟩ := str_ok ws h
  have d1 : (strD ws).depth = 1 := by
    unfold strD
    simp only [PyData.depth, h2]
  refine ⟨by unfold strD; simp only [PyData.showable, h4], by unfold strD; simp only [PyData.hasDict, h5], by omega, ?_⟩
  have lay : PyData.layable0 (strD ws) = true := by
    unfold PyData.layable0
    rw [Bool.and_eq_true, Bool.and_eq_true]
    refine ⟨⟨by unfold strD; simp only [PyData.canLay0, h1], decide_eq_true (by omega)⟩, decide_eq_true ?_⟩
    unfold strD
    simp only [PyData.weight]
    omega
  have := shown_le13 lay (by unfold strD; simp only [PyData.intsShort, h6])
  rw [sizeLine_eq]
  omega
theorem str_shaped {ws : List Str} (h : ∀ u ∈ ws, (tl u).length ≤ 20 ∧ ∀ c ∈ tl u, c < 128) : SeqAt.shaped (strD ws) = true := by
  obtain ⟨h1, h2, _⟩ := str_ok ws h
  unfold SeqAt.shaped strD
  rw [Bool.and_eq_true]
  exact ⟨by simp only [PyData.canLay0, h1], decide_eq_true (by simp only [PyData.depth, h2]; omega)⟩
theorem str_eqv {ws : List Str} (h : ∀ u ∈ ws, (tl u).length ≤ 20 ∧ ∀ c ∈ tl u, c < 128) : PyData.eqv (strD ws) (strD ws) = true := by
  obtain ⟨h1, _⟩ := str_ok ws h
  exact PySem.SeqAt.eqv_refl _ (by unfold strD; simp only [PyData.canLay0, h1])
theorem str_eqv_nil (ws : List Str) : PyData.eqv (strD ws) (.list []) = ws.isEmpty := by
  unfold strD
  cases ws <;> simp [PyData.eqv, PyData.eqvAll]
end DW
/-! minimal_words -/
namespace DW
open PySem PySem.Spec PyProof.Rows L2 TL
set_option autoImplicit false
theorem at_strs {ws : List Str} {j : Nat} {x : V} (h : (ws.map V.str)[j]? = some x) : ∃ u, ws[j]? = some u ∧ x = V.str u := by
  rw [List.getElem?_map] at h
  cases q : ws[j]? with
  | none => rw [q] at h; cases h
  | some u => rw [q] at h; exact ⟨u, rfl, (Option.some.inj h).symm⟩
def spHp (K : PySem.W.Frag) : Sp := fun vs H Q _ => ∃ (x : Str) (l : Addr) (ws : List Str), vs = [.str x, .ref l] ∧ SqL K H l (ws.map V.str) ∧ (tl x).length ≤ 1000 ∧ (∀ u ∈ ws, (tl u).length ≤ 1000) ∧ ∀ H', Same H H' → Q (.bl (ws.any (propB x))) H'
def spSlx (K : PySem.W.Frag) : Sp := fun vs H Q _ => ∃ (l : Addr) (ws : List Str), vs = [.ref l] ∧ SqL K H l (ws.map V.str) ∧ ws.length ≤ 4000 ∧ (∀ u ∈ ws, (tl u).length ≤ 1000) ∧ ∀ H' p ys, Same H H' → H p = none → H' p = some (.lst (ys.map V.str)) → ys.length ≤ ws.length → Slx ws ys → Q (.ref p) H'
def spMin (K : PySem.W.Frag) : Sp := fun vs H Q _ => ∃ (l : Addr) (ws : List Str), vs = [.ref l] ∧ SqL K H l (ws.map V.str) ∧ ws.length ≤ 4000 ∧ (∀ u ∈ ws, (tl u).length ≤ 1000) ∧ ∀ H' p ys, Same H H' → H p = none → H' p = some (.lst ((ys.filter (kept ws)).map V.str)) → Slx ws ys → ys.length ≤ ws.length → Q (.ref p) H'
theorem SqL.keep {K : PySem.W.Frag} {H H' : Hp} {a : Addr} {xs : List V} (h : SqL K H a xs) (s : Same H H') : SqL K H' a xs := by
  rcases h with (h | ⟨q, h⟩) | h
  · exact .inl (.inl (s _ _ h))
  · exact .inl (.inr ⟨q, s _ _ h⟩)
  · exact .inr h
section
variable {P : Program} {w : World} {K : PySem.W.Frag} {mg : Str → Option Value} {base : Heap}
theorem scHp : FnScope ["word", "words", "shorter"] ["word", "words"] (defScope sHasProperSubword) := ⟨rfl, rfl, rfl, by decide +kernel, rfl, by decide +kernel, by decide +kernel⟩
theorem ok_hp (D : Df K mg "has_proper_subword" sHasProperSubword ["word", "words"]) (Ds0 : Df K mg "is_subword" sIsSubword ["word", "other"]) (Df0 : Df K mg "first_positions" sFirstPositions ["word", "other"]) (mt : mg "tuple" = none) (ml : mg "len" = none) : FnOk P w K mg base CX0 3 D.f D.fd ["word", "words"] (spHp K) := by
  have Gs : FnOk P w K mg base CX0 2 Ds0.f Ds0.fd ["word", "other"] spSubP := ok_subp Ds0 Df0 mt
  refine D.F.ok scHp (fun vs H Q E h => ?_) (fun cdv A outer s H vs Q E hr h => ?_)
  · obtain ⟨x, l, ws, rfl, _⟩ := h
    rfl
  · obtain ⟨x, l, ws, rfl, hl, xl, wl, k⟩ := h
    have sz : ∀ y : Str, y.length = (tl y).length := fun y => (Array.length_toList).symm
    refine ⟨_, PSs.nox (pss_cons (ps_for PassesOwn.never rfl (pi_list (pv 1)) (pg_name (i := 2) scHp.nd rfl (.inl rfl)) (pss_one (ps_if (pw_and (pt_cmpR op_lt (pe_callB call_len_str (by rfl) ml PySem.boot_len (pa_cons (pv 2) pa_nil)) (pe_callB call_len_str (by rfl) ml PySem.boot_len (pa_cons (pv 0) pa_nil)) (nomark _)) (pw_and1 (pt_val (pe_call Gs hr (by rfl) Ds0.g Ds0.F.kp Ds0.b .nil pass0 (pa_cons (pv 2) (pa_cons (pv 0) pa_nil)))))).pt (pss_one (ps_ret pe_bl)) pss_nil))) (pss_one (ps_ret pe_bl))), ?_⟩
    refine ⟨.ref l, rfl, l, rfl, ⟨_, hl⟩, for_it (walk_list (xs := ws.map V.str)) (fun i σ H' => ∃ y2, σ = [some (.str x), some (.ref l), y2] ∧ (ws.take i).any (propB x) = false ∧ Same H H') ⟨_, rfl, rfl, Same.refl H⟩ (fun _ _ _ _ ⟨_, _, _, s⟩ => SqL.keep hl s) ?_ ?_⟩
    · rintro i v σ G G' hi ⟨y2, rfl, no, sm⟩ ⟨rfl, hv⟩
      obtain ⟨u, hu, rfl⟩ := at_strs hv
      have ul := wl u (List.mem_of_getElem? hu)
      have tk : (ws.take (i + 1)).any (propB x) = propB x u := by
        rw [List.take_add_one, hu, List.any_append, no]
        simp
      have yes : propB x u = true → ws.any (propB x) = true := fun h => List.any_eq_true.mpr ⟨u, List.mem_of_getElem? hu, h⟩
      refine ⟨.str u, rfl, u, rfl, by rw [sz, sizeLine_eq]; omega, .str x, rfl, x, rfl, by rw [sz, sizeLine_eq]; omega, _, _, rfl, rfl, _, rfl, ite2 (fun e => ?_) (fun e => ?_)⟩
      · have lt : (tl u).length < (tl x).length := by
          have := of_decide_eq_true e
          rw [sz, sz] at this
          omega
        refine ⟨.str u, rfl, .str x, rfl, u, x, rfl, ul, xl, fun H2 b s2 hb => ⟨b, rfl, ite2 (fun e2 => ?_) (fun e2 => ?_)⟩⟩
        · have := k _ (sm.trans s2)
          rw [yes (prop_iff.mpr ⟨lt, hb.mp e2⟩)] at this
          exact this
        · refine ⟨_, rfl, ?_, sm.trans s2⟩
          rw [tk]
          cases q : propB x u with
          | false => rfl
          | true => exact absurd (hb.mpr (prop_iff.mp q).2) e2
      · refine iteF ⟨_, rfl, ?_, sm⟩
        rw [tk]
        cases q : propB x u with
        | false => rfl
        | true =>
          have h := (prop_iff.mp q).1
          exact absurd (decide_eq_true (by rw [sz, sz]; omega)) e
    · rintro σ G ⟨y2, rfl, no, sm⟩
      rw [List.length_map, List.take_length] at no
      have := k _ sm
      rw [no] at this
      exact this
theorem scSo : FnScope ["words"] ["words"] (defScope sInShortlexOrder) := ⟨rfl, rfl, rfl, by decide +kernel, rfl, by decide +kernel, by decide +kernel⟩
theorem ok_so (D : Df K mg "in_shortlex_order" sInShortlexOrder ["words"]) (B : Bl mg) : FnOk P w K mg base CX0 1 D.f D.fd ["words"] (spSlx K) := by
  refine D.F.ok scSo (fun vs H Q E h => ?_) (fun cdv A outer s H vs Q E hr h => ?_)
  · obtain ⟨l, ws, rfl, _⟩ := h
    rfl
  · obtain ⟨l, ws, rfl, hl, w64, wl, k⟩ := h
    have hu : A.units + 3 + 66 < cLine := by
      have h1 := hr.un
      have h2 : A.units + 3 + 16 * 0 + 200 < cLine := h1
      omega
    refine ⟨_, (pss_one (ps_ret (SL.pe_sortedLen hu (by rfl) B.sorted (by rfl) B.len (pa_cons (pe_callB (TXB.cr_sortTx rfl hu) (by rfl) B.sorted (by decide +kernel) (pa_cons (pe_callTy (TX.cr_setL rfl) (by rfl) B.set (by decide +kernel) (pa_cons (pv 0) pa_nil)) pa_nil)) pa_nil)))), ?_⟩
    refine ⟨.ref l, rfl, l, ws, rfl, hl, by unfold scanBound; omega, fun a ls ea nd mem le => ?_⟩
    have sa := same_upd (o := TX.SetTx P w a ls) ea
    refine ⟨a, ls, rfl, upd_same, by unfold scanBound; omega, fun ys p pm so hp => ?_⟩
    have sp := same_upd (o := .lst (ys.map V.str)) hp
    have my : ∀ u, u ∈ ys → u ∈ ws := fun u hu => (mem u).mp (pm.mem_iff.mp hu)
    have yl : ys.length ≤ ws.length := by rw [pm.length_eq]; exact le
    refine ⟨p, ys, rfl, SqL.of upd_same, fun u hu => ?_, by rw [sizeLine_eq]; omega, fun q hq => ?_⟩
    · have := wl u (my u hu)
      rw [show u.length = (tl u).length from (Array.length_toList).symm, sizeLine_eq]
      omega
    · have sq := same_upd (o := .lst ((SL.byLen ys).map V.str)) hq
      refine k _ q _ ((sa.trans sp).trans sq) ((sa.trans sp).free hq) upd_same ?_ (slx_of nd mem pm so)
      unfold SL.byLen
      rw [List.length_mergeSort]
      exact yl
theorem scMin : FnScope ["words", "minimal", "word"] ["words"] (defScope sMinimalWords) := ⟨rfl, rfl, rfl, by decide +kernel, rfl, by decide +kernel, by decide +kernel⟩
theorem ok_min (D : Df K mg "minimal_words" sMinimalWords ["words"]) (Di0 : Df K mg "in_shortlex_order" sInShortlexOrder ["words"]) (Dh0 : Df K mg "has_proper_subword" sHasProperSubword ["word", "words"]) (Ds0 : Df K mg "is_subword" sIsSubword ["word", "other"]) (Df0 : Df K mg "first_positions" sFirstPositions ["word", "other"]) (mt : mg "tuple" = none) (B : Bl mg) : FnOk P w K mg base CX0 4 D.f D.fd ["words"] (spMin K) := by
  have Gi : FnOk P w K mg base CX0 1 Di0.f Di0.fd ["words"] (spSlx K) := ok_so Di0 B
  have Gh : FnOk P w K mg base CX0 3 Dh0.f Dh0.fd ["word", "words"] (spHp K) := ok_hp Dh0 Ds0 Df0 mt B.len
  refine D.F.ok scMin (fun vs H Q E h => ?_) (fun cdv A outer s H vs Q E hr h => ?_)
  · obtain ⟨l, ws, rfl, _⟩ := h
    rfl
  · obtain ⟨l, ws, rfl, hl, w64, wl, k⟩ := h
    have hr1 : Room 1 _ := hr.mono (by decide)
    refine ⟨_, PSs.nox (pss_cons (ps_set (i := 1) scMin.nd rfl (.inl rfl) (pe_lst pa_nil)) (pss_cons (ps_for PassesOwn.never rfl (pi_list (pe_call Gi hr1 (by rfl) Di0.g Di0.F.kp Di0.b .nil pass0 (pa_cons (pv 0) pa_nil))) (pg_name (i := 2) scMin.nd rfl (.inl rfl)) (pss_one (ps_if (pt_not (pt_val (pe_call Gh hr (by rfl) Dh0.g Dh0.F.kp Dh0.b .nil pass0 (pa_cons (pv 2) (pa_cons (pv 1) pa_nil))))) (pss_one (ps_expr (pe_bm PySem.F.plainAttrs_list PySem.F.slot_list_append PySem.F.type_list_append mt_append (pv 1) (pa_cons (pv 2) pa_nil)))) pss_nil))) (pss_one (ps_ret (pv 1))))), ?_⟩
    refine ⟨Nat.zero_le _, fun m hm => ?_⟩
    have sm0 := same_upd (o := .lst []) hm
    refine ⟨.ref l, rfl, l, ws, rfl, SqL.keep hl sm0, w64, wl, fun H1 p ys s1 p0 hp yl S => ?_⟩
    have nmp : m ≠ p := fun e => by
      rw [← e, upd_same] at p0
      cases p0
    refine ⟨p, rfl, ⟨_, SqL.of hp⟩, for_it (walk_list (xs := ys.map V.str)) (fun i σ H' => ∃ y2, σ = [some (.ref l), some (.ref m), y2] ∧ H' m = some (.lst (((ys.take i).filter (kept ws)).map V.str)) ∧ H' p = some (.lst (ys.map V.str)) ∧ Same H H') ⟨_, rfl, s1 _ _ upd_same, hp, sm0.trans s1⟩ (fun _ _ _ _ ⟨_, _, _, h, _⟩ => SqL.of h) ?_ ?_⟩
    · rintro i v σ G G' hi ⟨y2, rfl, gm, gp, sm⟩ ⟨rfl, hv⟩
      obtain ⟨u, hu, rfl⟩ := at_strs hv
      have um := wl u ((S.mem u).mp (List.mem_of_getElem? hu))
      refine ⟨.str u, rfl, .ref m, rfl, u, m, _, rfl, SqL.of gm, um, fun x hx => wl x ((S.mem x).mp (List.mem_of_mem_take (List.mem_filter.mp hx).1)), fun H2 s2 => ?_⟩
      rw [kept_step S hu]
      have tk : (ys.take (i + 1)).filter (kept ws) = (ys.take i).filter (kept ws) ++ if kept ws u = true then [u] else [] := by
        rw [List.take_add_one, hu, List.filter_append]
        congr 1
        show List.filter _ [u] = _
        rw [List.filter_cons]
        rfl
      refine ⟨_, rfl, ?_⟩
      cases q : kept ws u with
      | true =>
        have fl : ((ys.take i).filter (kept ws)).length ≤ 4000 := Nat.le_trans (List.length_filter_le _ _) (by rw [List.length_take]; omega)
        refine ⟨.ref m, rfl, .inl ⟨rfl, _, SqL.of (s2 _ _ gm)⟩, .str u, rfl, m, _, _, rfl, rfl, s2 _ _ gm, ?_, _, rfl, ?_, (upd_ne nmp.symm).trans (s2 _ _ gp), fun b o e => (upd_ne (ne_of_none e hm)).trans ((sm.trans s2) _ _ e)⟩
        · rw [List.length_map, sizeLine_eq]
          omega
        · rw [upd_same, tk, q, if_pos rfl, List.map_append]
          rfl
      | false =>
        refine ⟨_, rfl, ?_, s2 _ _ gp, sm.trans s2⟩
        rw [tk, q]
        simpa using s2 _ _ gm
    · rintro σ G ⟨y2, rfl, gm, gp, sm⟩
      rw [List.length_map, List.take_length] at gm
      exact ⟨.ref m, rfl, k _ m ys sm hm gm S yl⟩
end
end DW
/-! shortlex, without Languages -/
namespace DW
open PySem PySem.Spec PyProof.Rows L2 TL
set_option autoImplicit false
def slt (u v : List Nat) : Prop := u.length < v.length ∨ (u.length = v.length ∧ u < v)
def sle (u v : List Nat) : Prop := u = v ∨ slt u v
theorem slt_irr {u : List Nat} (h : slt u u) : False := by
  rcases h with h | ⟨_, h⟩
  · exact Nat.lt_irrefl _ h
  · exact List.lt_irrefl _ h
theorem slt_trans {u v w : List Nat} (h : slt u v) (g : slt v w) : slt u w := by
  rcases h with h | ⟨e, h⟩
  · rcases g with g | ⟨f, g⟩
    · exact .inl (Nat.lt_trans h g)
    · exact .inl (by omega)
  · rcases g with g | ⟨f, g⟩
    · exact .inl (by omega)
    · exact .inr ⟨e.trans f, List.lt_trans h g⟩
theorem sle_slt {u v w : List Nat} (h : sle u v) (g : slt v w) : slt u w := by
  rcases h with rfl | h
  · exact g
  · exact slt_trans h g
theorem slt_sle {u v w : List Nat} (h : slt u v) (g : sle v w) : slt u w := by
  rcases g with rfl | g
  · exact h
  · exact slt_trans h g
theorem slt_tri {u v : List Nat} (ne : u ≠ v) : slt u v ∨ slt v u := by
  rcases Nat.lt_trichotomy u.length v.length with h | h | h
  · exact .inl (.inl h)
  · rcases Classical.em (u < v) with g | g
    · exact .inl (.inr ⟨h, g⟩)
    · rcases Classical.em (v < u) with k | k
      · exact .inr (.inr ⟨h.symm, k⟩)
      · exact absurd (List.le_antisymm k g) ne
  · exact .inr (.inl h)
theorem pair_no : ∀ {l : List Str} {a b : Str}, l.Nodup → [a, b].Sublist l → [b, a].Sublist l → False
  | x :: t, a, b, nd, h1, h2 => by
    obtain ⟨nx, nd'⟩ := List.nodup_cons.mp nd
    cases h1 with
    | cons _ h1 =>
      cases h2 with
      | cons _ h2 => exact pair_no nd' h1 h2
      | cons_cons _ h2 => exact nx (h1.subset (List.mem_cons_of_mem _ List.mem_cons_self))
    | cons_cons _ h1 =>
      cases h2 with
      | cons _ h2 => exact nx (h2.subset (List.mem_cons_of_mem _ List.mem_cons_self))
      | cons_cons _ h2 => exact nx (h1.subset List.mem_cons_self)
theorem pair_in : ∀ {l : List Str} {a b : Str}, l.Pairwise (fun a b => tl a < tl b) → a ∈ l → b ∈ l → tl a < tl b → [a, b].Sublist l
  | x :: t, a, b, p, ha, hb, lt => by
    obtain ⟨px, p'⟩ := List.pairwise_cons.mp p
    rcases List.mem_cons.mp ha with rfl | ha
    · rcases List.mem_cons.mp hb with rfl | hb
      · exact absurd lt (List.lt_irrefl _)
      · exact (List.singleton_sublist.mpr hb).cons_cons _
    · rcases List.mem_cons.mp hb with rfl | hb
      · exact absurd (List.lt_trans lt (px a ‹_›)) (List.lt_irrefl _)
      · exact (pair_in p' ha hb lt).cons _
theorem Slx.slt {ws ys : List Str} (S : Slx ws ys) : ys.Pairwise (fun a b => slt (tl a) (tl b)) := by
  obtain ⟨zs, rfl, p, m⟩ := S.src
  have nz : zs.Nodup := p.imp fun h e => by rw [e] at h; exact List.lt_irrefl _ h
  have pm : (SL.byLen zs).Perm zs := List.mergeSort_perm _ _
  have nd : (SL.byLen zs).Nodup := pm.nodup_iff.mpr nz
  refine List.pairwise_iff_forall_sublist.mpr fun {a b} h => ?_
  have le := List.pairwise_iff_forall_sublist.mp S.pw h
  rcases Nat.lt_or_eq_of_le le with lt | eq
  · exact .inl lt
  have ha : a ∈ zs := pm.mem_iff.mp (h.subset List.mem_cons_self)
  have hb : b ∈ zs := pm.mem_iff.mp (h.subset (List.mem_cons_of_mem _ List.mem_cons_self))
  rcases Decidable.em (tl a < tl b) with q | q
  · exact .inr ⟨eq, q⟩
  exfalso
  have ne : a ≠ b := fun e => by
    subst e
    exact absurd rfl (List.pairwise_iff_forall_sublist.mp (List.nodup_iff_pairwise_ne.mp nd) h)
  have lt2 : tl b < tl a := by
    rcases Decidable.em (tl b < tl a) with g | g
    · exact g
    · exact absurd (tl_inj (List.le_antisymm (List.not_lt.mp g) (List.not_lt.mp q))) ne
  have sub := pair_in p hb ha lt2
  have : [b, a].Sublist (SL.byLen zs) := by
    unfold SL.byLen
    rw [leLen_eq]
    refine List.pair_sublist_mergeSort (le := fun a b : Str => decide ((tl a).length ≤ (tl b).length)) (fun a b c h1 h2 => by simp at *; omega) (fun a b => by simp; omega) ?_ sub
    exact decide_eq_true (Nat.le_of_eq eq.symm)
  exact pair_no nd h this
theorem slt_uniq : ∀ {l m : List (List Nat)}, l.Pairwise slt → m.Pairwise slt → (∀ k, k ∈ l ↔ k ∈ m) → l = m
  | [], [], _, _, _ => rfl
  | [], b :: m, _, _, h => by
    have := (h b).mpr List.mem_cons_self
    cases this
  | a :: l, [], _, _, h => by
    have := (h a).mp List.mem_cons_self
    cases this
  | a :: l, b :: m, p, q, h => by
    obtain ⟨pa, p'⟩ := List.pairwise_cons.mp p
    obtain ⟨qb, q'⟩ := List.pairwise_cons.mp q
    have ab : a = b := by
      rcases List.mem_cons.mp ((h a).mp List.mem_cons_self) with e | e
      · exact e
      · rcases List.mem_cons.mp ((h b).mpr List.mem_cons_self) with f | f
        · exact f.symm
        · exact (slt_irr (slt_trans (pa b f) (qb a e))).elim
    subst ab
    rw [slt_uniq p' q' fun k => ?_]
    constructor
    · intro hk
      rcases List.mem_cons.mp ((h k).mp (List.mem_cons_of_mem _ hk)) with e | e
      · rw [e] at hk
        exact (slt_irr (pa a hk)).elim
      · exact e
    · intro hk
      rcases List.mem_cons.mp ((h k).mpr (List.mem_cons_of_mem _ hk)) with e | e
      · rw [e] at hk
        exact (slt_irr (qb a hk)).elim
      · exact e
theorem flat_flat {α β γ : Type} (g : α → List β) (f : β → List γ) : ∀ l : List α, (((l.map g).flatten).map f).flatten = (l.map fun c => ((g c).map f).flatten).flatten
  | [] => rfl
  | c :: l => by
    rw [List.map_cons, List.flatten_cons, List.map_append, List.flatten_append, flat_flat g f l]
    rfl
theorem map_flat {α β γ : Type} (f : α → List β) (h : β → γ) : ∀ l : List α, (l.map f).flatten.map h = (l.map fun x => (f x).map h).flatten
  | [] => rfl
  | c :: l => by
    rw [List.map_cons, List.flatten_cons, List.map_append, map_flat f h l]
    rfl
theorem wordsE_cons (cs : List Nat) : ∀ n : Nat, wordsE cs (n + 1) = (cs.map fun c => (wordsE cs n).map fun w => c :: w).flatten
  | 0 => by
    show (cs.map fun c => [] ++ [c]) ++ [] = (cs.map fun c => [[c]]).flatten
    rw [List.append_nil]
    induction cs with
    | nil => rfl
    | cons c r ih =>
      rw [List.map_cons, List.map_cons, List.flatten_cons, ih]
      rfl
  | n + 1 => by
    have e : wordsE cs (n + 2) = ((wordsE cs (n + 1)).map fun w => cs.map fun c => w ++ [c]).flatten := rfl
    rw [e, wordsE_cons cs n, flat_flat]
    congr 1
    refine List.map_congr_left fun c _ => ?_
    rw [List.map_map]
    have e2 : wordsE cs (n + 1) = ((wordsE cs n).map fun w => cs.map fun c => w ++ [c]).flatten := rfl
    rw [← wordsE_cons cs n, e2, map_flat]
    congr 1
    refine List.map_congr_left fun w _ => ?_
    rw [List.map_map]
    rfl
theorem wordsE_len {cs : List Nat} : ∀ {n : Nat} {w : List Nat}, w ∈ wordsE cs n → w.length = n
  | 0, w, h => by rw [List.mem_singleton.mp h]; rfl
  | n + 1, w, h => by
    obtain ⟨l, hl, hw⟩ := List.mem_flatten.mp h
    obtain ⟨v, hv, rfl⟩ := List.mem_map.mp hl
    obtain ⟨c, _, rfl⟩ := List.mem_map.mp hw
    rw [List.length_append, wordsE_len hv]
    rfl
theorem wordsE_lt {cs : List Nat} (pw : cs.Pairwise (· < ·)) : ∀ n : Nat, (wordsE cs n).Pairwise fun a b => a.length = n ∧ b.length = n ∧ a < b
  | 0 => List.pairwise_singleton _ _
  | n + 1 => by
    rw [wordsE_cons]
    refine List.pairwise_flatten.mpr ⟨fun l hl => ?_, ?_⟩
    · obtain ⟨c, hc, rfl⟩ := List.mem_map.mp hl
      refine List.pairwise_map.mpr ((wordsE_lt pw n).imp fun {a b} h => ⟨?_, ?_, ?_⟩)
      · rw [List.length_cons, h.1]
      · rw [List.length_cons, h.2.1]
      · exact List.cons_lt_cons_iff.mpr (.inr ⟨rfl, h.2.2⟩)
    · refine List.pairwise_map.mpr (pw.imp_of_mem fun {c d} hc hd h x hx y hy => ?_)
      obtain ⟨u, hu, rfl⟩ := List.mem_map.mp hx
      obtain ⟨v, hv, rfl⟩ := List.mem_map.mp hy
      exact ⟨by rw [List.length_cons, wordsE_len hu], by rw [List.length_cons, wordsE_len hv], List.cons_lt_cons_iff.mpr (.inl h)⟩
theorem allW_slt {cs : List Nat} (pw : cs.Pairwise (· < ·)) : ∀ N : Nat, (allW cs N).Pairwise slt ∧ ∀ w ∈ allW cs N, w.length ≤ N
  | 0 => ⟨List.pairwise_singleton _ _, fun w hw => by rw [List.mem_singleton.mp hw]; exact Nat.le_refl _⟩
  | N + 1 => by
    obtain ⟨h1, h2⟩ := allW_slt pw N
    show (allW cs N ++ wordsE cs (N + 1)).Pairwise slt ∧ ∀ w ∈ allW cs N ++ wordsE cs (N + 1), w.length ≤ N + 1
    refine ⟨List.pairwise_append.mpr ⟨h1, (wordsE_lt pw (N + 1)).imp fun h => .inr ⟨h.1.trans h.2.1.symm, h.2.2⟩, fun a ha b hb => .inl ?_⟩, fun w hw => ?_⟩
    · have := h2 a ha
      have := wordsE_len hb
      omega
    · rcases List.mem_append.mp hw with h | h
      · exact Nat.le_succ_of_le (h2 w h)
      · exact Nat.le_of_eq (wordsE_len h)
theorem wordsE_has {cs : List Nat} : ∀ w : List Nat, (∀ c ∈ w, c ∈ cs) → w ∈ wordsE cs w.length
  | [], _ => List.mem_cons_self
  | c :: r, hc => by
    rw [List.length_cons, wordsE_cons]
    exact List.mem_flatten.mpr ⟨_, List.mem_map.mpr ⟨c, hc c List.mem_cons_self, rfl⟩, List.mem_map.mpr ⟨r, wordsE_has r fun d hd => hc d (List.mem_cons_of_mem _ hd), rfl⟩⟩
theorem allW_has {cs : List Nat} : ∀ (N : Nat) (w : List Nat), (∀ c ∈ w, c ∈ cs) → w.length ≤ N → w ∈ allW cs N
  | 0, w, _, h => by
    rw [List.length_eq_zero_iff.mp (Nat.le_zero.mp h)]
    exact List.mem_cons_self
  | N + 1, w, hc, h => by
    show w ∈ allW cs N ++ wordsE cs (N + 1)
    rcases Nat.lt_or_eq_of_le h with h | h
    · exact List.mem_append_left _ (allW_has N w hc (Nat.le_of_lt_succ h))
    · refine List.mem_append_right _ ?_
      rw [← h]
      exact wordsE_has w hc
end DW
/-! merged_words -/
namespace DW
open PySem PySem.Spec PyProof.Rows L2 TL
set_option autoImplicit false
def mg : List Nat → List Nat → List (List Nat)
  | [], v => [v]
  | a :: u, [] => [a :: u]
  | a :: u, b :: v => if a = b then (mg u v).map (a :: ·) else (mg u (b :: v)).map (a :: ·) ++ (mg (a :: u) v).map (b :: ·)
termination_by u v => u.length + v.length
theorem mg_nil (v : List Nat) : mg [] v = [v] := by unfold mg; rfl
theorem mg_nil2 (u : List Nat) : mg u [] = [u] := by
  cases u with
  | nil => exact mg_nil []
  | cons a u => unfold mg; rfl
theorem mg_cons (a b : Nat) (u v : List Nat) : mg (a :: u) (b :: v) = if a = b then (mg u v).map (a :: ·) else (mg u (b :: v)).map (a :: ·) ++ (mg (a :: u) v).map (b :: ·) := by
  conv => lhs; unfold mg
def CSup (u v w : List Nat) : Prop := u.Sublist w ∧ v.Sublist w
theorem mg_sup : ∀ (n : Nat) (u v : List Nat), u.length + v.length = n → ∀ m ∈ mg u v, CSup u v m ∧ m.length ≤ n ∧ ∀ c ∈ m, c ∈ u ∨ c ∈ v := by
  intro n
  induction n using Nat.strongRecOn with
  | _ n ih =>
    intro u v hn m hm
    match u, v with
    | [], v =>
      rw [mg_nil] at hm
      rw [List.mem_singleton.mp hm]
      exact ⟨⟨List.nil_sublist _, List.Sublist.refl _⟩, by rw [← hn]; simp, fun c hc => .inr hc⟩
    | a :: u, [] =>
      rw [mg_nil2] at hm
      rw [List.mem_singleton.mp hm]
      exact ⟨⟨List.Sublist.refl _, List.nil_sublist _⟩, by rw [← hn]; simp, fun c hc => .inl hc⟩
    | a :: u, b :: v =>
      rw [List.length_cons, List.length_cons] at hn
      rw [mg_cons] at hm
      split at hm
      · next e =>
        subst e
        obtain ⟨m', hm', rfl⟩ := List.mem_map.mp hm
        obtain ⟨⟨h1, h2⟩, h3, h4⟩ := ih (u.length + v.length) (by omega) u v rfl m' hm'
        refine ⟨⟨h1.cons_cons a, h2.cons_cons a⟩, by rw [List.length_cons]; omega, fun c hc => ?_⟩
        rcases List.mem_cons.mp hc with e | e
        · rw [e]; exact .inl List.mem_cons_self
        · rcases h4 c e with q | q
          · exact .inl (List.mem_cons_of_mem _ q)
          · exact .inr (List.mem_cons_of_mem _ q)
      · rcases List.mem_append.mp hm with hm | hm
        · obtain ⟨m', hm', rfl⟩ := List.mem_map.mp hm
          obtain ⟨⟨h1, h2⟩, h3, h4⟩ := ih (u.length + (v.length + 1)) (by omega) u (b :: v) rfl m' hm'
          refine ⟨⟨h1.cons_cons a, h2.cons a⟩, by rw [List.length_cons]; omega, fun c hc => ?_⟩
          rcases List.mem_cons.mp hc with e | e
          · rw [e]; exact .inl List.mem_cons_self
          · rcases h4 c e with q | q
            · exact .inl (List.mem_cons_of_mem _ q)
            · exact .inr q
        · obtain ⟨m', hm', rfl⟩ := List.mem_map.mp hm
          obtain ⟨⟨h1, h2⟩, h3, h4⟩ := ih (u.length + 1 + v.length) (by omega) (a :: u) v rfl m' hm'
          refine ⟨⟨h1.cons b, h2.cons_cons b⟩, by rw [List.length_cons]; omega, fun c hc => ?_⟩
          rcases List.mem_cons.mp hc with e | e
          · rw [e]; exact .inr List.mem_cons_self
          · rcases h4 c e with q | q
            · exact .inl q
            · exact .inr (List.mem_cons_of_mem _ q)
theorem sub_tail {a c : Nat} {u w : List Nat} (h : (a :: u).Sublist (c :: w)) (ne : a ≠ c) : (a :: u).Sublist w := by
  cases h with
  | cons _ h => exact h
  | cons_cons _ _ => exact absurd rfl ne
theorem sub_head {a : Nat} {u w : List Nat} (h : (a :: u).Sublist (a :: w)) : u.Sublist w := List.cons_sublist_cons.mp h
theorem sub_of_cons {b c : Nat} {v w : List Nat} (h : (b :: v).Sublist (c :: w)) (ne : b ≠ c) : (b :: v).Sublist w := sub_tail h ne
/-- every common superword has one of the merges inside -/
theorem mg_all : ∀ (w u v : List Nat), CSup u v w → ∃ m ∈ mg u v, m.Sublist w
  | w, [], v, h => ⟨v, by rw [mg_nil]; exact List.mem_cons_self, h.2⟩
  | w, a :: u, [], h => ⟨a :: u, by rw [mg_nil2]; exact List.mem_cons_self, h.1⟩
  | [], a :: u, b :: v, h => by
    have := h.1.length_le
    rw [List.length_cons] at this
    cases this
  | c :: w, a :: u, b :: v, h => by
    rw [mg_cons]
    by_cases ab : a = b
    · subst ab
      rw [if_pos rfl]
      by_cases ac : a = c
      · subst ac
        obtain ⟨m, hm, s⟩ := mg_all w u v ⟨sub_head h.1, sub_head h.2⟩
        exact ⟨a :: m, List.mem_map.mpr ⟨m, hm, rfl⟩, s.cons_cons a⟩
      · obtain ⟨m, hm, s⟩ := mg_all w (a :: u) (a :: v) ⟨sub_tail h.1 ac, sub_tail h.2 ac⟩
        rw [mg_cons, if_pos rfl] at hm
        exact ⟨m, hm, s.cons c⟩
    · rw [if_neg ab]
      by_cases ac : a = c
      · subst ac
        obtain ⟨m, hm, s⟩ := mg_all w u (b :: v) ⟨sub_head h.1, sub_tail h.2 (fun e => ab e.symm)⟩
        exact ⟨a :: m, List.mem_append_left _ (List.mem_map.mpr ⟨m, hm, rfl⟩), s.cons_cons a⟩
      · by_cases bc : b = c
        · subst bc
          obtain ⟨m, hm, s⟩ := mg_all w (a :: u) v ⟨sub_tail h.1 ab, sub_head h.2⟩
          exact ⟨b :: m, List.mem_append_right _ (List.mem_map.mpr ⟨m, hm, rfl⟩), s.cons_cons b⟩
        · obtain ⟨m, hm, s⟩ := mg_all w (a :: u) (b :: v) ⟨sub_tail h.1 ac, sub_tail h.2 bc⟩
          rw [mg_cons, if_neg ab] at hm
          exact ⟨m, hm, s.cons c⟩
theorem mg_few : ∀ (n : Nat) (u v : List Nat), u.length + v.length = n → (mg u v).length ≤ 2 ^ (n - 1) := by
  intro n
  induction n using Nat.strongRecOn with
  | _ n ih =>
    intro u v hn
    have one : 1 ≤ 2 ^ (n - 1) := Nat.pow_pos (by decide)
    match u, v with
    | [], v => rw [mg_nil]; exact one
    | a :: u, [] => rw [mg_nil2]; exact one
    | a :: u, b :: v =>
      rw [List.length_cons, List.length_cons] at hn
      rw [mg_cons]
      have p : 2 ^ (n - 1) = 2 ^ (n - 2) + 2 ^ (n - 2) := by
        rw [show n - 1 = n - 2 + 1 by omega, Nat.pow_succ]
        omega
      split
      · have := ih (u.length + v.length) (by omega) u v rfl
        rw [List.length_map]
        exact Nat.le_trans this (Nat.pow_le_pow_right (by decide) (by omega))
      · have h1 := ih (u.length + (v.length + 1)) (by omega) u (b :: v) rfl
        have h2 := ih (u.length + 1 + v.length) (by omega) (a :: u) v rfl
        rw [List.length_append, List.length_map, List.length_map]
        rw [show u.length + (v.length + 1) - 1 = n - 2 by omega] at h1
        rw [show u.length + 1 + v.length - 1 = n - 2 by omega] at h2
        omega
def spMw (n : Nat) (K : PySem.W.Frag) : Sp := fun vs H Q _ => ∃ (x y : Str), vs = [.str x, .str y] ∧ (tl x).length + (tl y).length < n ∧
  ∀ H' q (ws : List Str), Same H H' → H q = none → H' q = some (.lst (ws.map V.str)) → ws.map tl = mg (tl x) (tl y) → Q (.ref q) H'
section
variable {P : Program} {w : World} {K : PySem.W.Frag} {mg' : Str → Option Value} {base : Heap}
theorem scMw : FnScope ["word", "other", "taking_word", "taking_other", "rest"] ["word", "other"] (defScope sMergedWords) := ⟨rfl, rfl, rfl, by decide +kernel, rfl, by decide +kernel, by decide +kernel⟩
theorem ok_mw (D : Df K mg' "merged_words" sMergedWords ["word", "other"]) : ∀ n, n ≤ 13 → FnOk P w K mg' base CX0 n D.f D.fd ["word", "other"] (spMw n K)
  | 0, _ => ⟨fun vs H Q E ⟨_, _, _, h, _⟩ => absurd h (Nat.not_lt_zero _), fun A outer s H args us vs Q E _ _ _ _ ⟨_, _, _, h, _⟩ => absurd h (Nat.not_lt_zero _)⟩
  | n + 1, hn => by
    have Gm : FnOk P w K mg' base CX0 n D.f D.fd ["word", "other"] (spMw n K) := ok_mw D n (by omega)
    refine D.F.ok scMw (fun vs H Q E h => ?_) (fun cdv A outer s H vs Q E hr h => ?_)
    · obtain ⟨x, y, rfl, _⟩ := h
      rfl
    · obtain ⟨x, y, rfl, l, k⟩ := h
      have sl := sizeLine_eq
      have sx : ∀ y : Str, y.length = (tl y).length := fun y => (Array.length_toList).symm
      have sxx := sx x
      have sxy := sx y
      refine ⟨_, PSs.nox (pss_cons (ps_if (pw_or (pt_cmpR op_eq (pv 0) pe_str (nomark _)) (pw_or1 (pt_cmpR op_eq (pv 1) pe_str (nomark _)))).pt (pss_one (ps_ret (pe_lst (pa_cons (pe_op op_add_str (pv 0) (pv 1)) pa_nil)))) pss_nil) (pss_cons (ps_if (pt_cmpR op_eq (pe_ix ix_str (pv 0) pe_int (fun _ _ => rfl)) (pe_ix ix_str (pv 1) pe_int (fun _ _ => rfl)) (nomark _)) (pss_one (ps_ret (pe_lc (own := [("rest", 4)]) (g := gName 4) rfl scMw.nd (pi_list (pe_call Gm hr (by rfl) D.g D.F.kp D.b .nil pass0 (pa_cons (pe_slice sl_str (pv 0) (po_some pe_int) po_none) (pa_cons (pe_slice sl_str (pv 1) (po_some pe_int) po_none) pa_nil)))) (blkOk_by (N := ["word", "other", "taking_word", "taking_other", "rest"]) (sc := defScope sMergedWords) (by decide +kernel)) (fun _ _ _ _ _ => pg_name (i := 4) scMw.nd rfl (Or.inl rfl)) (fun _ _ _ _ _ => pts_nil) (fun _ _ _ _ _ => (pe_op op_add_str (pe_ix ix_str (pv 0) pe_int (fun _ _ => rfl)) (pv 4)))))) pss_nil) (pss_cons (ps_setLc (i := 2) (own := [("rest", 4)]) (g := gName 4) rfl scMw.nd rfl rfl (sw_true rfl rfl rfl (by decide +kernel)) (pi_list (pe_call Gm hr (by rfl) D.g D.F.kp D.b .nil pass0 (pa_cons (pe_slice sl_str (pv 0) (po_some pe_int) po_none) (pa_cons (pv 1) pa_nil)))) (blkOk_by (N := ["word", "other", "taking_word", "taking_other", "rest"]) (sc := defScope sMergedWords) (by decide +kernel)) (fun _ _ _ _ _ => pg_name (i := 4) scMw.nd rfl (Or.inl rfl)) (fun _ _ _ _ _ => pts_nil) (fun _ _ _ _ _ => (pe_op op_add_str (pe_ix ix_str (pv 0) pe_int (fun _ _ => rfl)) (pv 4)))) (pss_cons (ps_setLc (i := 3) (own := [("rest", 4)]) (g := gName 4) rfl scMw.nd rfl rfl (sw_true rfl rfl rfl (by decide +kernel)) (pi_list (pe_call Gm hr (by rfl) D.g D.F.kp D.b .nil pass0 (pa_cons (pv 0) (pa_cons (pe_slice sl_str (pv 1) (po_some pe_int) po_none) pa_nil)))) (blkOk_by (N := ["word", "other", "taking_word", "taking_other", "rest"]) (sc := defScope sMergedWords) (by decide +kernel)) (fun _ _ _ _ _ => pg_name (i := 4) scMw.nd rfl (Or.inl rfl)) (fun _ _ _ _ _ => pts_nil) (fun _ _ _ _ _ => (pe_op op_add_str (pe_ix ix_str (pv 1) pe_int (fun _ _ => rfl)) (pv 4)))) (pss_one (ps_ret (pe_op op_cat (pv 2) (pv 3)))))))), ?_⟩
      have nil_of : ∀ {x : Str}, tl x = [] → decide (V.str x = V.str "") = true := fun {x} h => by rw [show x = "" from tl_inj h]; exact decide_eq_true rfl
      have not_nil : ∀ {x : Str} {a : Nat} {u : List Nat}, tl x = a :: u → decide (V.str x = V.str "") = false := fun {x a u} h => decide_eq_false fun e => by
        have := V.str.inj e
        rw [this] at h
        cases h
      have one_ : (tl x = [] ∨ tl y = []) → tLst (tCons (tOp (fun x y H Q => ∃ i j, x = V.str i ∧ y = V.str j ∧ i.length + j.length ≤ sizeLine ∧ Q (V.str (i ++ j)) H) (tVar 0) (tVar 1)) tNil) (L2.start ["word", "other", "taking_word", "taking_other", "rest"] [V.str x, V.str y]) H (fun v H' => Q v H') := fun h => by
        refine ⟨.str x, rfl, .str y, rfl, x, y, rfl, rfl, by omega, by show 1 ≤ sizeLine; decide, fun q hq => ?_⟩
        refine k _ q [x ++ y] (same_upd hq) hq upd_same ?_
        show [tl (x ++ y)] = _
        rw [tl_app]
        rcases h with h | h
        · rw [h, mg_nil]; rfl
        · rw [h, mg_nil2, List.append_nil]
      cases ex : tl x with
      | nil =>
        refine ⟨.str x, rfl, rfl, _, rfl, ?_⟩
        rw [nil_of ex]
        exact iteT (iteT (one_ (.inl ex)))
      | cons a u =>
        refine ⟨.str x, rfl, rfl, _, rfl, ?_⟩
        rw [not_nil ex]
        refine iteF ⟨.str y, rfl, rfl, _, rfl, ?_⟩
        cases ey : tl y with
        | nil =>
          rw [nil_of ey]
          exact iteT (one_ (.inr ey))
        | cons b v =>
          rw [not_nil ey]
          refine iteF ?_
          refine ⟨.str x, rfl, x, 0, a, rfl, rfl, by omega, at_cp (j := 0) rfl (by show (tl x)[0]? = _; rw [ex]; rfl), .str y, rfl, y, 0, b, rfl, rfl, by omega, at_cp (j := 0) rfl (by show (tl y)[0]? = _; rw [ey]; rfl), rfl, _, rfl, ?_⟩
          have cx := cut_tail ex
          have cy := cut_tail ey
          have lx : (tl x).length = u.length + 1 := by rw [ex]; rfl
          have ly : (tl y).length = v.length + 1 := by rw [ey]; rfl
          have lens : ∀ {p q : List Nat} {ws : List Str}, p.length + q.length ≤ 12 → ws.map tl = mg p q → (∀ r ∈ ws, (tl r).length ≤ 12) ∧ ws.length ≤ 2048 := fun {p q ws} hl e => by
            refine ⟨fun r hr' => ?_, ?_⟩
            · have hm : tl r ∈ mg p q := by rw [← e]; exact List.mem_map.mpr ⟨r, hr', rfl⟩
              have := (mg_sup _ p q rfl _ hm).2.1
              omega
            · have := mg_few _ p q rfl
              rw [← e, List.length_map] at this
              exact Nat.le_trans this (Nat.le_trans (Nat.pow_le_pow_right (by decide) (by omega : p.length + q.length - 1 ≤ 11)) (by decide))
          have front : ∀ (c : Nat) (ws : List Str), (ws.map fun r => (⟨#[c]⟩ : Str) ++ r).map tl = (ws.map tl).map (c :: ·) := fun c ws => by
            rw [List.map_map, List.map_map]
            exact List.map_congr_left fun r _ => tl_app _ r
          by_cases ab : a = b
          · rw [ab, decide_eq_true (show V.str (⟨#[b]⟩ : Str) = V.str ⟨#[b]⟩ from rfl)]
            refine iteT ⟨.str x, rfl, 1, rfl, x, rfl, by omega, .str y, rfl, 1, rfl, y, rfl, by omega, cutS x (some 1) none, cutS y (some 1) none, rfl, by rw [cx, cy]; omega, fun H1 q ws s1 nq hq ew => ⟨q, rfl, ⟨_, SqL.of hq⟩, fun T hT => ?_⟩⟩
            rw [cx, cy] at ew
            obtain ⟨wl, wn⟩ := lens (by omega) ew
            refine lc_it (walk_list (xs := ws.map V.str)) (fun i H' => H' T = some (.lst (((ws.take i).map fun r => (⟨#[a]⟩ : Str) ++ r).map V.str)) ∧ Same H1 H') ⟨upd_same, same_upd hT⟩ (fun _ _ _ ⟨_, sm⟩ => SqL.of (sm _ _ hq)) ?_ ?_
            · rintro i z G G' hi ⟨gT, sm⟩ ⟨rfl, hz⟩
              obtain ⟨r, hr', rfl⟩ := at_strs hz
              have rl := wl r (List.mem_of_getElem? hr')
              have srl := sx r
              have ol : (⟨#[a]⟩ : Str).length = 1 := rfl
              rw [List.length_map] at hi
              refine ⟨rfl, yes ⟨.str x, rfl, x, 0, a, rfl, rfl, by omega, at_cp (j := 0) rfl (by show (tl x)[0]? = _; rw [ex]; rfl), .str r, rfl, _, r, rfl, rfl, by rw [ol]; omega, _, gT, ?_, ?_, fun b o e => (upd_ne (ne_of_none e hT)).trans (sm _ _ e)⟩⟩
              · rw [List.length_map, List.length_map, List.length_take]
                omega
              · rw [upd_same, List.take_add_one, hr', List.map_append, List.map_append]
                rfl
            · rintro N1 ⟨gT, sN⟩
              rw [List.length_map, List.take_length] at gT
              refine k _ T _ (s1.trans sN) (s1.free hT) gT ?_
              rw [front, ew, ex, ey, mg_cons, if_pos ab]
          · rw [decide_eq_false (fun e => ab (by
              have := congrArg tl (V.str.inj e)
              exact (List.cons.inj this).1))]
            refine iteF ?_
            refine ⟨.str x, rfl, 1, rfl, x, rfl, by omega, .str y, rfl, cutS x (some 1) none, y, rfl, by rw [cx]; omega, fun H1 q ws s1 nq hq ew => ⟨q, rfl, ⟨_, SqL.of hq⟩, fun T hT => ?_⟩⟩
            rw [cx] at ew
            obtain ⟨wl, wn⟩ := lens (by omega) ew
            refine lc_it (walk_list (xs := ws.map V.str)) (fun i H' => H' T = some (.lst (((ws.take i).map fun r => (⟨#[a]⟩ : Str) ++ r).map V.str)) ∧ Same H1 H') ⟨upd_same, same_upd hT⟩ (fun _ _ _ ⟨_, sm⟩ => SqL.of (sm _ _ hq)) ?_ ?_
            · rintro i z G G' hi ⟨gT, sm⟩ ⟨rfl, hz⟩
              obtain ⟨r, hr', rfl⟩ := at_strs hz
              have rl := wl r (List.mem_of_getElem? hr')
              have srl := sx r
              have ol : (⟨#[a]⟩ : Str).length = 1 := rfl
              rw [List.length_map] at hi
              refine ⟨rfl, yes ⟨.str x, rfl, x, 0, a, rfl, rfl, by omega, at_cp (j := 0) rfl (by show (tl x)[0]? = _; rw [ex]; rfl), .str r, rfl, _, r, rfl, rfl, by rw [ol]; omega, _, gT, ?_, ?_, fun b o e => (upd_ne (ne_of_none e hT)).trans (sm _ _ e)⟩⟩
              · rw [List.length_map, List.length_map, List.length_take]
                omega
              · rw [upd_same, List.take_add_one, hr', List.map_append, List.map_append]
                rfl
            · rintro N1 ⟨gT, sN⟩
              rw [List.length_map, List.take_length] at gT
              refine ⟨.str x, rfl, .str y, rfl, 1, rfl, y, rfl, by omega, x, cutS y (some 1) none, rfl, by rw [cy]; omega, fun H2 q2 ws2 s2 nq2 hq2 ew2 => ⟨q2, rfl, ⟨_, SqL.of hq2⟩, fun T2 hT2 => ?_⟩⟩
              rw [cy] at ew2
              obtain ⟨wl2, wn2⟩ := lens (by omega) ew2
              refine lc_it (walk_list (xs := ws2.map V.str)) (fun i H' => H' T2 = some (.lst (((ws2.take i).map fun r => (⟨#[b]⟩ : Str) ++ r).map V.str)) ∧ Same H2 H') ⟨upd_same, same_upd hT2⟩ (fun _ _ _ ⟨_, sm⟩ => SqL.of (sm _ _ hq2)) ?_ ?_
              · rintro i z G G' hi ⟨gT, sm⟩ ⟨rfl, hz⟩
                obtain ⟨r, hr', rfl⟩ := at_strs hz
                have rl := wl2 r (List.mem_of_getElem? hr')
                have srl := sx r
                have ol : (⟨#[b]⟩ : Str).length = 1 := rfl
                rw [List.length_map] at hi
                refine ⟨rfl, yes ⟨.str y, rfl, y, 0, b, rfl, rfl, by omega, at_cp (j := 0) rfl (by show (tl y)[0]? = _; rw [ey]; rfl), .str r, rfl, _, r, rfl, rfl, by rw [ol]; omega, _, gT, ?_, ?_, fun b o e => (upd_ne (ne_of_none e hT2)).trans (sm _ _ e)⟩⟩
                · rw [List.length_map, List.length_map, List.length_take]
                  omega
                · rw [upd_same, List.take_add_one, hr', List.map_append, List.map_append]
                  rfl
              · rintro N2 ⟨gT2, sN2⟩
                rw [List.length_map, List.take_length] at gT2
                have gT' := (s2.trans sN2) _ _ gT
                refine ⟨.ref T, rfl, .ref T2, rfl, T, T2, _, _, rfl, rfl, gT', gT2, by rw [List.length_map, List.length_map, List.length_map, List.length_map]; omega, fun p hp => ?_⟩
                have sall := ((s1.trans sN).trans s2).trans sN2
                refine k _ p (ws.map (fun r => (⟨#[a]⟩ : Str) ++ r) ++ ws2.map (fun r => (⟨#[b]⟩ : Str) ++ r)) (sall.trans (same_upd hp)) (sall.free hp) (by rw [upd_same, List.map_append]) ?_
                rw [List.map_append, front, front, ew, ew2, ex, ey, mg_cons, if_neg ab]
end
end DW
/-! common_superwords -/
namespace DW
open PySem PySem.Spec PyProof.Rows L2 TL
set_option autoImplicit false
theorem ps_nox6 {X : Cx} {st : Stmt} {t : TS} (h : PS X.nox st t) : PS X st t := ⟨fun pins s σ H D I hw =>
  wpAny_mono (h.run pins s σ H D (I.wish _) hw) (fun _ _ q => q.unwish) fun _ _ z => False.elim z⟩
theorem sub_erase {w m : List Nat} (s : w.Sublist m) : w.length < m.length → ∃ i, i < m.length ∧ w.Sublist (m.eraseIdx i) := by
  induction s with
  | slnil => intro h; exact absurd h (Nat.lt_irrefl _)
  | cons a s ih => exact fun _ => ⟨0, Nat.succ_pos _, s⟩
  | cons_cons a s ih =>
    intro h
    obtain ⟨i, hi, g⟩ := ih (Nat.lt_of_succ_lt_succ h)
    exact ⟨i + 1, Nat.succ_lt_succ hi, g.cons_cons a⟩
/-- a minimal common superword -/
def MinC (u v m : List Nat) : Prop := CSup u v m ∧ ∀ i, i < m.length → ¬ CSup u v (m.eraseIdx i)
theorem MinC.proper {u v m : List Nat} (M : MinC u v m) {w : List Nat} (s : w.Sublist m) (ne : w.length < m.length) : ¬ CSup u v w := fun c => by
  obtain ⟨i, hi, g⟩ := sub_erase s ne
  exact M.2 i hi ⟨c.1.trans g, c.2.trans g⟩
/-- the minimal common superwords, listed -/
structure Mcs (u v : List Nat) (ws : List Str) : Prop where
  slt : (ws.map tl).Pairwise slt
  mem : ∀ m, m ∈ ws.map tl ↔ MinC u v m
  few : ws.length ≤ 2048
theorem Mcs.same {u v u' v' : List Nat} {ws ys : List Str} (A : Mcs u v ws) (B : Mcs u' v' ys) (h : ∀ m, MinC u v m ↔ MinC u' v' m) : ws = ys := by
  have e : ws.map tl = ys.map tl := slt_uniq A.slt B.slt fun m => by rw [A.mem, B.mem, h]
  have inj : ∀ {l m : List Str}, l.map tl = m.map tl → l = m := by
    intro l
    induction l with
    | nil => intro m h; cases m with
      | nil => rfl
      | cons a m => cases h
    | cons a l ih => intro m h; cases m with
      | nil => cases h
      | cons b m =>
        rw [List.map_cons, List.map_cons] at h
        rw [tl_inj (List.cons.inj h).1, ih (List.cons.inj h).2]
  exact inj e
theorem Mcs.of {u v : List Nat} (l12 : u.length + v.length ≤ 12) {ws ys : List Str} (e : ws.map tl = mg u v) (S : Slx ws ys) (yl : ys.length ≤ ws.length) : Mcs u v (ys.filter (kept ws)) := by
  have sup : ∀ y ∈ ws, CSup u v (tl y) := fun y hy => (mg_sup _ u v rfl _ (by rw [← e]; exact List.mem_map.mpr ⟨y, hy, rfl⟩)).1
  have al : ∀ w, CSup u v w → ∃ y ∈ ws, (tl y).Sublist w := fun w h => by
    obtain ⟨m, hm, s⟩ := mg_all w u v h
    rw [← e] at hm
    obtain ⟨y, hy, rfl⟩ := List.mem_map.mp hm
    exact ⟨y, hy, s⟩
  refine ⟨List.pairwise_map.mpr (S.slt.filter _), fun m => ?_, ?_⟩
  · constructor
    · intro h
      obtain ⟨y, hy, rfl⟩ := List.mem_map.mp h
      obtain ⟨h1, h2⟩ := List.mem_filter.mp hy
      have hw := (S.mem y).mp h1
      have kp := kept_iff.mp h2
      refine ⟨sup y hw, fun i hi c => ?_⟩
      obtain ⟨y', hy', s⟩ := al _ c
      have := kp y' hy'
      have el := List.length_eraseIdx_of_lt hi
      have sl := s.length_le
      rw [prop_iff.mpr ⟨by omega, s.trans (List.eraseIdx_sublist _ _)⟩] at this
      cases this
    · intro M
      obtain ⟨y, hy, s⟩ := al m M.1
      have ey : tl y = m := by
        rcases Nat.lt_or_ge (tl y).length m.length with h | h
        · exact absurd (sup y hy) (M.proper s h)
        · exact s.eq_of_length_le h
      subst ey
      refine List.mem_map.mpr ⟨y, List.mem_filter.mpr ⟨(S.mem y).mpr hy, kept_iff.mpr fun y' hy' => ?_⟩, rfl⟩
      cases q : propB y y' with
      | false => rfl
      | true =>
        obtain ⟨h1, h2⟩ := prop_iff.mp q
        exact absurd (sup y' hy') (M.proper h2 h1)
  · have h1 := List.length_filter_le (kept ws) ys
    have h2 := mg_few _ u v rfl
    rw [← e, List.length_map] at h2
    have h3 : 2 ^ (u.length + v.length - 1) ≤ 2 ^ 11 := Nat.pow_le_pow_right (by decide) (by omega)
    have : (2 : Nat) ^ 11 = 2048 := by decide
    omega
def spCs (K : PySem.W.Frag) (CT : Addr) : Sp := fun vs H Q E => ∃ (x y : Str), vs = [.str x, .str y] ∧ (tl x).length ≤ 1000 ∧ (tl y).length ≤ 1000 ∧
  ((tl x).length + (tl y).length ≤ 12 → ∀ H' q ws, Same H H' → H q = none → H' q = some (.lst (ws.map V.str)) → Mcs (tl x) (tl y) ws → Q (.ref q) H') ∧
  (12 < (tl x).length + (tl y).length → ∀ H' d, Same H H' → H' d = none → E (.ref CT) (some d) (upd H' d (.xd [(("limit" : Str), .int 12)])))
structure DfCs (K : PySem.W.Frag) (mg : Str → Option Value) where
  c : Df K mg "common_superwords" sCommonSuperwords ["word", "other"]
  m : Df K mg "merged_words" sMergedWords ["word", "other"]
  n : Df K mg "minimal_words" sMinimalWords ["words"]
  i : Df K mg "in_shortlex_order" sInShortlexOrder ["words"]
  h : Df K mg "has_proper_subword" sHasProperSubword ["word", "words"]
  s : Df K mg "is_subword" sIsSubword ["word", "other"]
  f : Df K mg "first_positions" sFirstPositions ["word", "other"]
  mt : mg "tuple" = none
  B : Bl mg
  ml : ∃ t, mg "SUPERWORD_LIMIT" = some (.int 12 t)
section
variable {P : Program} {w : World} {K : PySem.W.Frag} {mg' : Str → Option Value} {base : Heap}
theorem scCs : FnScope ["word", "other"] ["word", "other"] (defScope sCommonSuperwords) := ⟨rfl, rfl, rfl, by decide +kernel, rfl, by decide +kernel, by decide +kernel⟩
theorem ok_cs (D : DfCs K mg') (M : EX.DfE P K mg' "TooLarge" "limit" EX.MsgOk) : FnOk P w K mg' base (L2.CX P w) 14 D.c.f D.c.fd ["word", "other"] (spCs K M.C) := by
  have Gm : FnOk P w K mg' base CX0 13 D.m.f D.m.fd ["word", "other"] (spMw 13 K) := ok_mw D.m 13 (Nat.le_refl _)
  have Gn : FnOk P w K mg' base CX0 4 D.n.f D.n.fd ["words"] (spMin K) := ok_min D.n D.i D.h D.s D.f D.mt D.B
  have ml : ∃ u, mg' "SUPERWORD_LIMIT" = some u ∧ RelV (.int 12) u := by
    obtain ⟨t, e⟩ := D.ml
    exact ⟨_, e, t, rfl⟩
  refine D.c.F.ok scCs (fun vs H Q E h => ?_) (fun cdv A outer s H vs Q E hr h => ?_)
  · obtain ⟨x, y, rfl, _⟩ := h
    rfl
  · obtain ⟨x, y, rfl, xl, yl, kq, ke⟩ := h
    have hr2 : Room (1 + 1) _ := hr.mono (by decide)
    have hr4 : Room 4 _ := hr.mono (by decide)
    have sl := sizeLine_eq
    have sx : ∀ y : Str, y.length = (tl y).length := fun y => (Array.length_toList).symm
    have sxx := sx x
    have sxy := sx y
    refine ⟨_, (pss_cons (ps_if (pt_cmpR op_gt (pe_op op_add (pe_callB call_len_str (by rfl) D.B.len PySem.boot_len (pa_cons (pv 0) pa_nil)) (pe_callB call_len_str (by rfl) D.B.len PySem.boot_len (pa_cons (pv 1) pa_nil))) (C8.pe_gc (by rfl) ml) (nomark _)) (pss_one (ps_raise rfl (takes_of rfl rfl rfl rfl) (EX.pmk_err M.T M.iC M.tI (M.F w base) hr2 M.b (by rfl) M.g (C8.pe_gc (by rfl) ml)))) pss_nil) (pss_one (ps_nox6 (ps_ret (pe_call Gn hr4 (by rfl) D.n.g D.n.F.kp D.n.b .nil pass0 (pa_cons (pe_call Gm hr (by rfl) D.m.g D.m.F.kp D.m.b .nil pass0 (pa_cons (pv 0) (pa_cons (pv 1) pa_nil))) pa_nil)))))), ?_⟩
    refine ⟨.str x, rfl, x, rfl, by omega, .str y, rfl, y, rfl, by omega, _, _, rfl, rfl, _, _, rfl, rfl, _, rfl, ?_⟩
    have nl : EX.MsgOk (.int 12) := .inr (.inl ⟨_, rfl, by decide +kernel⟩)
    by_cases c : 12 < (tl x).length + (tl y).length
    · rw [decide_eq_true (by omega)]
      exact iteT ⟨nl, fun d nd => ke c _ d (Same.refl _) nd⟩
    · rw [decide_eq_false (by omega)]
      refine iteF ?_
      refine ⟨.str x, rfl, .str y, rfl, x, y, rfl, by omega, fun H1 q ws s1 nq hq ew => ?_⟩
      have wl : ws.length ≤ 4000 := by
        have h2 := mg_few _ (tl x) (tl y) rfl
        rw [← ew, List.length_map] at h2
        have h3 : 2 ^ ((tl x).length + (tl y).length - 1) ≤ 2 ^ 11 := Nat.pow_le_pow_right (by decide) (by omega)
        have : (2 : Nat) ^ 11 = 2048 := by decide
        omega
      refine ⟨q, ws, rfl, SqL.of hq, wl, fun u hu => ?_, fun H2 p ys s2 np hp S yl => ?_⟩
      · have hm : tl u ∈ mg (tl x) (tl y) := by rw [← ew]; exact List.mem_map.mpr ⟨u, hu, rfl⟩
        have := (mg_sup _ _ _ rfl _ hm).2.1
        omega
      · exact kq (by omega) _ p _ (s1.trans s2) (s1.free np) hp (Mcs.of (by omega) ew S yl)
end
end DW
/-! k04: refused, merged -/
namespace DW
open PySem PySem.Spec PyProof.Rows L2 TL
set_option autoImplicit false
def spRf (K : PySem.W.Frag) : Sp := fun vs H Q _ => ∃ (x y : Str), vs = [.str x, .str y] ∧ (tl x).length ≤ 1000 ∧ (tl y).length ≤ 1000 ∧ 12 < (tl x).length + (tl y).length ∧ ∀ H', Same H H' → Q (.bl true) H'
/-- the errors -/
structure DfRf (P : Program) (K : PySem.W.Frag) (mg : Str → Option Value) where
  M : EX.DfE P K mg "TooLarge" "limit" EX.MsgOk
  T : EX.DfE P K mg "TooMany" "limit" EX.MsgOk
  B : EX.DfE0 K mg "DownwordsError"
  k1 : PySem.W.kitOne K (.ref M.C) (.ref B.C) = some true
  k2 : PySem.W.kitOne K (.ref M.C) (.ref T.C) = some false
  e1 : PySem.W.exmOne K (.ref M.C) (.ref M.C) = some true
def spMgd (K : PySem.W.Frag) : Sp := fun vs H Q _ => ∃ (t c : Addr) (n : Nat) (x y : Str), vs = [.ref t, .str x, .str y] ∧ Tape H t c n ∧ n + 100 < 2 ^ 40 ∧ (tl x).length + (tl y).length ≤ 40 ∧
  ∀ H' u, Kp t H H' → Tape H' t c (n + 100) → CSup (tl x) (tl y) (tl u) → (tl u).length ≤ 40 → Q (.str u) H'
/-- what is merged so far -/
structure Mgd (x y f w o : List Nat) : Prop where
  a : ∃ p, x = p ++ w ∧ p.Sublist f
  b : ∃ p, y = p ++ o ∧ p.Sublist f
  l : f.length + w.length + o.length ≤ x.length + y.length
theorem Mgd.both {x y f w o : List Nat} {c : Nat} (M : Mgd x y f (c :: w) (c :: o)) : Mgd x y (f ++ [c]) w o := by
  obtain ⟨p, e, s⟩ := M.a
  obtain ⟨q, e', s'⟩ := M.b
  have l := M.l
  rw [List.length_cons, List.length_cons] at l
  exact ⟨⟨p ++ [c], by rw [e]; simp, s.append (List.Sublist.refl _)⟩, ⟨q ++ [c], by rw [e']; simp, s'.append (List.Sublist.refl _)⟩, by rw [List.length_append, List.length_singleton]; omega⟩
theorem Mgd.one {x y f w o : List Nat} {c : Nat} (M : Mgd x y f (c :: w) o) : Mgd x y (f ++ [c]) w o := by
  obtain ⟨p, e, s⟩ := M.a
  obtain ⟨q, e', s'⟩ := M.b
  have l := M.l
  rw [List.length_cons] at l
  exact ⟨⟨p ++ [c], by rw [e]; simp, s.append (List.Sublist.refl _)⟩, ⟨q, e', s'.trans (List.sublist_append_left _ _)⟩, by rw [List.length_append, List.length_singleton]; omega⟩
theorem Mgd.two {x y f w o : List Nat} {c : Nat} (M : Mgd x y f w (c :: o)) : Mgd x y (f ++ [c]) w o := by
  obtain ⟨p, e, s⟩ := M.a
  obtain ⟨q, e', s'⟩ := M.b
  have l := M.l
  rw [List.length_cons] at l
  exact ⟨⟨p, e, s.trans (List.sublist_append_left _ _)⟩, ⟨q ++ [c], by rw [e']; simp, s'.append (List.Sublist.refl _)⟩, by rw [List.length_append, List.length_singleton]; omega⟩
theorem Mgd.done {x y f : List Nat} (M : Mgd x y f [] []) : CSup x y f := by
  obtain ⟨p, e, s⟩ := M.a
  obtain ⟨q, e', s'⟩ := M.b
  rw [List.append_nil] at e e'
  subst e e'
  exact ⟨s, s'⟩
section
variable {P : Program} {w : World} {K : PySem.W.Frag} {mg' : Str → Option Value} {base : Heap}
theorem scRf : FnScope ["_law_word_here", "_law_other", "e"] ["_law_word_here", "_law_other"] (defScope sLIsRefused) := ⟨rfl, rfl, rfl, by decide +kernel, rfl, by decide +kernel, by decide +kernel⟩
theorem ok_rf (D : Df K mg' "_law_is_refused" sLIsRefused ["_law_word_here", "_law_other"]) (Dc : DfCs K mg') (M : DfRf P K mg') (mi : mg' "isinstance" = none) : FnOk P w K mg' base CX0 15 D.f D.fd ["_law_word_here", "_law_other"] (spRf K) := by
  have Gc : FnOk P w K mg' base (L2.CX P w) 14 Dc.c.f Dc.c.fd ["word", "other"] (spCs K M.M.C) := ok_cs Dc M.M
  refine D.F.ok scRf (fun vs H Q E h => ?_) (fun cdv A outer s H vs Q E hr h => ?_)
  · obtain ⟨x, y, rfl, _⟩ := h
    rfl
  · obtain ⟨x, y, rfl, xl, yl, lt, k⟩ := h
    refine ⟨_, (pss_cons (ps_try_as (i := 2) rfl rfl scRf.nd rfl rfl ⟨rfl, by decide, .inl M.M.g⟩ takes0 (fun W pn xe tk _ => (pss_one (ps_expr (pe_callS Gc hr (by rfl) Dc.c.g Dc.c.F.kp Dc.c.b (fun σ => passAt tk σ) (pa_cons (pv 0) (pa_cons (pv 1) pa_nil)))))) (fun a oe cls d pn hz hf => (pss_one (ps_ret (pe_and (pe_cmpR op_eq (EX.pe_xfE hz hf (pv 2)) pe_int (nomark _)) (pe_and (pe_callB (EX.call_isX hz hf) (by rfl) mi (by decide +kernel) (pa_cons (pv 2) (pa_cons (pe_glob (v := V.ref M.B.C) (by rfl) M.B.g rfl) pa_nil))) (pe_one (pe_not (pe_callB (EX.call_isX hz hf) (by rfl) mi (by decide +kernel) (pa_cons (pv 2) (pa_cons (pe_glob (v := V.ref M.T.C) (by rfl) M.T.g rfl) pa_nil))))))))))) (pss_one (ps_ret pe_bl))), ?_⟩
    refine ⟨.str x, rfl, .str y, rfl, x, y, rfl, xl, yl, fun h => by omega, fun _ H' d s1 nd => ?_⟩
    have sd := same_upd (o := .xd [(("limit" : Str), V.int 12)]) nd
    have gd : (upd H' d (.xd [(("limit" : Str), V.int 12)])) d = some (.xd [(("limit" : Str), V.int 12)]) := upd_same
    refine ⟨true, M.e1, fun _ a ha => ?_, fun q => nomatch q⟩
    refine ⟨.ref a, rfl, M.M.C, rfl, rfl, M.M.T, M.M.no, d, _, .int 12, rfl, gd, rfl, rfl, true, rfl, iteT ?_⟩
    refine ⟨.ref a, rfl, M.M.C, .ref M.B.C, .ref M.B.C, true, rfl, rfl, M.M.T, (fun dd e => by cases e; exact ⟨_, gd⟩), (fun u ru => ru), M.k1, true, rfl, iteT ?_⟩
    exact ⟨.ref a, rfl, M.M.C, .ref M.T.C, .ref M.T.C, false, rfl, rfl, M.M.T, (fun dd e => by cases e; exact ⟨_, gd⟩), (fun u ru => ru), M.k2, false, rfl, k _ (s1.trans sd)⟩
theorem scMgd : FnScope ["_law_tape", "_law_word_here", "_law_other", "_law_found"] ["_law_tape", "_law_word_here", "_law_other"] (defScope sLMerged) := ⟨rfl, rfl, rfl, by decide +kernel, rfl, by decide +kernel, by decide +kernel⟩
theorem ok_mgd (D : Df K mg' "_law_merged" sLMerged ["_law_tape", "_law_word_here", "_law_other"]) (Dd : DfDraw K mg') (ml : mg' "len" = none) : FnOk P w K mg' base CX0 2 D.f D.fd ["_law_tape", "_law_word_here", "_law_other"] (spMgd K) := by
  have Gd : FnOk P w K mg' base CX0 1 Dd.f Dd.fd ["_law_tape", "_law_many"] spDraw := ok_draw Dd ml
  refine D.F.ok scMgd (fun vs H Q E h => ?_) (fun cdv A outer s H vs Q E hr h => ?_)
  · obtain ⟨t, c, n, x, y, rfl, _⟩ := h
    rfl
  · obtain ⟨t, c, n, x, y, rfl, T, hn, l40, k⟩ := h
    have sl := sizeLine_eq
    have sx : ∀ y : Str, y.length = (tl y).length := fun y => (Array.length_toList).symm
    refine ⟨_, PSs.nox (pss_cons (ps_set (i := 3) scMgd.nd rfl (.inl rfl) pe_str) (pss_cons (ps_while PassesOwn.never (pt_cmpR op_ne (pe_op op_add_str (pv 1) (pv 2)) pe_str (nomark _)) (pss_one (ps_if (pw_and (pt_cmpR op_eq (pe_slice sl_str (pv 1) po_none (po_some pe_int)) (pe_slice sl_str (pv 2) po_none (po_some pe_int)) (nomark _)) (pw_and1 (pt_cmpR op_eq (pe_call Gd hr (by rfl) Dd.g Dd.F.kp Dd.b .nil pass0 (pa_cons (pv 0) (pa_cons pe_int pa_nil))) pe_int (nomark _)))).pt (pss_one (ps_par3 (i := 3) (j := 1) (l := 2) rfl scMgd.nd rfl rfl rfl (by decide) (by decide) (by decide) rfl rfl rfl (pa_cons (pe_op op_add_str (pv 3) (pe_ix ix_str (pv 1) pe_int (fun _ _ => rfl))) (pa_cons (pe_slice sl_str (pv 1) (po_some pe_int) po_none) (pa_cons (pe_slice sl_str (pv 2) (po_some pe_int) po_none) pa_nil))) (by rfl))) (pss_one (ps_if (pw_or (pt_cmpR op_eq (pv 2) pe_str (nomark _)) (pw_or1 (pw_and (pt_cmpR op_ne (pv 1) pe_str (nomark _)) (pw_and1 (pt_cmpR op_eq (pe_call Gd hr (by rfl) Dd.g Dd.F.kp Dd.b .nil pass0 (pa_cons (pv 0) (pa_cons pe_int pa_nil))) pe_int (nomark _)))).pt)).pt (pss_one (ps_par (i := 3) (j := 1) rfl scMgd.nd rfl rfl (by decide) rfl rfl (pa_cons (pe_op op_add_str (pv 3) (pe_ix ix_str (pv 1) pe_int (fun _ _ => rfl))) (pa_cons (pe_slice sl_str (pv 1) (po_some pe_int) po_none) pa_nil)) (by rfl))) (pss_one (ps_par (i := 3) (j := 2) rfl scMgd.nd rfl rfl (by decide) rfl rfl (pa_cons (pe_op op_add_str (pv 3) (pe_ix ix_str (pv 2) pe_int (fun _ _ => rfl))) (pa_cons (pe_slice sl_str (pv 2) (po_some pe_int) po_none) pa_nil)) (by rfl)))))))) (pss_one (ps_ret (pv 3))))), ?_⟩
    refine ⟨fun m σ H' => ∃ (f u v : Str), σ = [some (.ref t), some (.str u), some (.str v), some (.str f)] ∧ Mgd (tl x) (tl y) (tl f) (tl u) (tl v) ∧ Kp t H H' ∧ Tape H' t c (n + 2 * (40 - m)) ∧ m ≤ 40 ∧ m = (tl u).length + (tl v).length, ⟨_, "", x, y, rfl, ⟨⟨[], rfl, List.nil_sublist _⟩, ⟨[], rfl, List.nil_sublist _⟩, by show 0 + _ + _ ≤ _; omega⟩, Kp.refl T, T.mono (by omega), l40, rfl⟩, ?_⟩
    rintro m σ G ⟨f, u, v, rfl, Mg, kG, TG, m40, hm⟩
    have su := sx u
    have sv := sx v
    have sf := sx f
    have lG := Mg.l
    have nil_of : ∀ {x : Str}, tl x = [] → decide (V.str x = V.str "") = true := fun {x} h => by rw [show x = "" from tl_inj h]; exact decide_eq_true rfl
    have not_nil : ∀ {x : Str} {a : Nat} {u : List Nat}, tl x = a :: u → decide (V.str x = V.str "") = false := fun {x a u} h => decide_eq_false fun e => by
      have := V.str.inj e
      rw [this] at h
      cases h
    have ap : tl (u ++ v) = tl u ++ tl v := tl_app u v
    refine ⟨.str u, rfl, .str v, rfl, u, v, rfl, rfl, by omega, rfl, _, rfl, ?_⟩
    by_cases ne : tl u = [] ∧ tl v = []
    · rw [nil_of (x := u ++ v) (by rw [ap, ne.1, ne.2]; rfl)]
      refine iteF ⟨.str f, rfl, ?_⟩
      have M1 := Mg
      rw [ne.1, ne.2] at M1
      exact k _ f kG (TG.mono (by omega)) M1.done (by omega)
    · obtain ⟨d, rest, ed⟩ : ∃ d rest, tl (u ++ v) = d :: rest := by
        rw [ap]
        cases h : tl u ++ tl v with
        | nil => exact absurd (List.append_eq_nil_iff.mp h) ne
        | cons d r => exact ⟨d, r, rfl⟩
      rw [not_nil ed]
      refine iteT ⟨fun σ' H' => ∃ (f' u' v' : Str), σ' = [some (.ref t), some (.str u'), some (.str v'), some (.str f')] ∧ Mgd (tl x) (tl y) (tl f') (tl u') (tl v') ∧ Kp t H H' ∧ Tape H' t c (n + 2 * (40 - m) + 2) ∧ (tl u').length + (tl v').length < m, ?_, ?_⟩
      · rintro σ' H' ⟨f', u', v', e1, e2, e3, e4, e5⟩
        exact ⟨_, e5, f', u', v', e1, e2, e3, e4.mono (by omega), by omega, rfl⟩
      have up1 : ∀ x : Str, tl (cutS x none (some 1)) = (tl x).take 1 := fun x => by
        show (x.cps.toList.drop (HT.sIx x.length 0 none)).take (HT.sIx x.length x.length (some ((1 : Nat) : Int)) - HT.sIx x.length 0 none) = _
        rw [HT.sIx_none, HT.sIx_nat, sx]
        by_cases h : 1 ≤ (tl x).length
        · rw [Nat.min_eq_left h]; rfl
        · rw [Nat.min_eq_right (by omega), List.take_of_length_le (show (tl x).length ≤ 1 by omega)]
          show (tl x).take ((tl x).length - 0) = _
          rw [Nat.sub_zero, List.take_length]
      refine ⟨.str u, rfl, ?_⟩
      unfold tNoPart
      refine ⟨_, rfl, u, rfl, by omega, .str v, rfl, ?_⟩
      refine ⟨_, rfl, v, rfl, by omega, rfl, _, rfl, ite2 (fun e => ?_) (fun e => ?_)⟩
      · have hd : (tl u).take 1 = (tl v).take 1 := by
          have := congrArg tl (V.str.inj (of_decide_eq_true e))
          rw [up1, up1] at this
          exact this
        refine ⟨.ref t, rfl, t, c, 2, _, rfl, TG, by omega, by decide, by decide, fun G1 r1 k1 T1 r10 r11 => ⟨rfl, _, rfl, ite2 (fun e1 => ?_) (fun e1 => ?_)⟩⟩
        · cases eu : tl u with
          | nil =>
            rw [eu] at hd
            cases ev : tl v with
            | nil => exact absurd ⟨eu, ev⟩ ne
            | cons b q => rw [ev] at hd; cases hd
          | cons a r =>
            cases ev : tl v with
            | nil => rw [eu, ev] at hd; cases hd
            | cons b q =>
              rw [eu, ev] at hd
              have ab : a = b := (List.cons.inj hd).1
              subst ab
              have cu := cut_tail eu
              have cv := cut_tail ev
              have lu : (tl u).length = r.length + 1 := by rw [eu]; rfl
              have lv : (tl v).length = q.length + 1 := by rw [ev]; rfl
              have M1 := Mg
              rw [eu, ev] at M1
              have M2 := M1.both
              have ol : (⟨#[a]⟩ : Str).length = 1 := rfl
              refine ⟨.str f, rfl, .str u, rfl, u, 0, a, rfl, rfl, by omega, at_cp (j := 0) rfl (by show (tl u)[0]? = _; rw [eu]; rfl), f, ⟨#[a]⟩, rfl, rfl, by rw [ol]; omega, .str u, rfl, 1, rfl, u, rfl, by omega, .str v, rfl, 1, rfl, v, rfl, by omega, _, _, _, rfl, f ++ ⟨#[a]⟩, cutS u (some 1) none, cutS v (some 1) none, rfl, ?_, kG.trans k1, T1.mono (by omega), by rw [cu, cv]; omega⟩
              rw [tl_app, cu, cv]
              exact M2
        ·
          refine ⟨.str v, rfl, rfl, _, rfl, ?_⟩
          cases ev : tl v with
          | nil =>
            cases eu : tl u with
            | nil => exact absurd ⟨eu, ev⟩ ne
            | cons a r =>
              rw [nil_of ev]
              refine iteT ?_
              have ct := cut_tail eu
              have lX : (tl u).length = r.length + 1 := by rw [eu]; rfl
              have M1 := Mg
              rw [eu] at M1
              have M2 := M1.one
              have ol : (⟨#[a]⟩ : Str).length = 1 := rfl
              refine ⟨.str f, rfl, .str u, rfl, u, 0, a, rfl, rfl, by omega, at_cp (j := 0) rfl (by show (tl u)[0]? = _; rw [eu]; rfl), f, ⟨#[a]⟩, rfl, rfl, by rw [ol]; omega, .str u, rfl, 1, rfl, u, rfl, by omega, _, _, rfl, f ++ ⟨#[a]⟩, cutS u (some 1) none, v, rfl, ?_, kG.trans k1, (T1).mono (by omega), by rw [ct]; omega⟩
              rw [tl_app, ct]
              exact M2
          | cons b q =>
            rw [not_nil ev]
            refine iteF ⟨.str u, rfl, rfl, _, rfl, ?_⟩
            cases eu : tl u with
            | nil =>
              rw [nil_of eu]
              refine iteF ?_
              have ct := cut_tail ev
              have lX : (tl v).length = q.length + 1 := by rw [ev]; rfl
              have M1 := Mg
              rw [ev] at M1
              have M2 := M1.two
              have ol : (⟨#[b]⟩ : Str).length = 1 := rfl
              refine ⟨.str f, rfl, .str v, rfl, v, 0, b, rfl, rfl, by omega, at_cp (j := 0) rfl (by show (tl v)[0]? = _; rw [ev]; rfl), f, ⟨#[b]⟩, rfl, rfl, by rw [ol]; omega, .str v, rfl, 1, rfl, v, rfl, by omega, _, _, rfl, f ++ ⟨#[b]⟩, u, cutS v (some 1) none, rfl, ?_, kG.trans k1, (T1).mono (by omega), by rw [ct]; omega⟩
              rw [tl_app, ct]
              exact M2
            | cons a r =>
              rw [not_nil eu]
              refine iteT ⟨.ref t, rfl, t, c, 2, _, rfl, T1, by omega, by decide, by decide, fun G2 r2 k2 T2 r20 r21 => ⟨rfl, _, rfl, ite2 (fun e2 => ?_) (fun e2 => ?_)⟩⟩
              ·
                have ct := cut_tail eu
                have lX : (tl u).length = r.length + 1 := by rw [eu]; rfl
                have M1 := Mg
                rw [eu] at M1
                have M2 := M1.one
                have ol : (⟨#[a]⟩ : Str).length = 1 := rfl
                refine ⟨.str f, rfl, .str u, rfl, u, 0, a, rfl, rfl, by omega, at_cp (j := 0) rfl (by show (tl u)[0]? = _; rw [eu]; rfl), f, ⟨#[a]⟩, rfl, rfl, by rw [ol]; omega, .str u, rfl, 1, rfl, u, rfl, by omega, _, _, rfl, f ++ ⟨#[a]⟩, cutS u (some 1) none, v, rfl, ?_, (kG.trans k1).trans k2, T2.mono (by omega), by rw [ct]; omega⟩
                rw [tl_app, ct]
                exact M2
              ·
                have ct := cut_tail ev
                have lX : (tl v).length = q.length + 1 := by rw [ev]; rfl
                have M1 := Mg
                rw [ev] at M1
                have M2 := M1.two
                have ol : (⟨#[b]⟩ : Str).length = 1 := rfl
                refine ⟨.str f, rfl, .str v, rfl, v, 0, b, rfl, rfl, by omega, at_cp (j := 0) rfl (by show (tl v)[0]? = _; rw [ev]; rfl), f, ⟨#[b]⟩, rfl, rfl, by rw [ol]; omega, .str v, rfl, 1, rfl, v, rfl, by omega, _, _, rfl, f ++ ⟨#[b]⟩, u, cutS v (some 1) none, rfl, ?_, (kG.trans k1).trans k2, T2.mono (by omega), by rw [ct]; omega⟩
                rw [tl_app, ct]
                exact M2
      ·
        refine ⟨.str v, rfl, rfl, _, rfl, ?_⟩
        cases ev : tl v with
        | nil =>
          cases eu : tl u with
          | nil => exact absurd ⟨eu, ev⟩ ne
          | cons a r =>
            rw [nil_of ev]
            refine iteT ?_
            have ct := cut_tail eu
            have lX : (tl u).length = r.length + 1 := by rw [eu]; rfl
            have M1 := Mg
            rw [eu] at M1
            have M2 := M1.one
            have ol : (⟨#[a]⟩ : Str).length = 1 := rfl
            refine ⟨.str f, rfl, .str u, rfl, u, 0, a, rfl, rfl, by omega, at_cp (j := 0) rfl (by show (tl u)[0]? = _; rw [eu]; rfl), f, ⟨#[a]⟩, rfl, rfl, by rw [ol]; omega, .str u, rfl, 1, rfl, u, rfl, by omega, _, _, rfl, f ++ ⟨#[a]⟩, cutS u (some 1) none, v, rfl, ?_, kG, (TG).mono (by omega), by rw [ct]; omega⟩
            rw [tl_app, ct]
            exact M2
        | cons b q =>
          rw [not_nil ev]
          refine iteF ⟨.str u, rfl, rfl, _, rfl, ?_⟩
          cases eu : tl u with
          | nil =>
            rw [nil_of eu]
            refine iteF ?_
            have ct := cut_tail ev
            have lX : (tl v).length = q.length + 1 := by rw [ev]; rfl
            have M1 := Mg
            rw [ev] at M1
            have M2 := M1.two
            have ol : (⟨#[b]⟩ : Str).length = 1 := rfl
            refine ⟨.str f, rfl, .str v, rfl, v, 0, b, rfl, rfl, by omega, at_cp (j := 0) rfl (by show (tl v)[0]? = _; rw [ev]; rfl), f, ⟨#[b]⟩, rfl, rfl, by rw [ol]; omega, .str v, rfl, 1, rfl, v, rfl, by omega, _, _, rfl, f ++ ⟨#[b]⟩, u, cutS v (some 1) none, rfl, ?_, kG, (TG).mono (by omega), by rw [ct]; omega⟩
            rw [tl_app, ct]
            exact M2
          | cons a r =>
            rw [not_nil eu]
            refine iteT ⟨.ref t, rfl, t, c, 2, _, rfl, TG, by omega, by decide, by decide, fun G2 r2 k2 T2 r20 r21 => ⟨rfl, _, rfl, ite2 (fun e2 => ?_) (fun e2 => ?_)⟩⟩
            ·
              have ct := cut_tail eu
              have lX : (tl u).length = r.length + 1 := by rw [eu]; rfl
              have M1 := Mg
              rw [eu] at M1
              have M2 := M1.one
              have ol : (⟨#[a]⟩ : Str).length = 1 := rfl
              refine ⟨.str f, rfl, .str u, rfl, u, 0, a, rfl, rfl, by omega, at_cp (j := 0) rfl (by show (tl u)[0]? = _; rw [eu]; rfl), f, ⟨#[a]⟩, rfl, rfl, by rw [ol]; omega, .str u, rfl, 1, rfl, u, rfl, by omega, _, _, rfl, f ++ ⟨#[a]⟩, cutS u (some 1) none, v, rfl, ?_, (kG).trans k2, T2.mono (by omega), by rw [ct]; omega⟩
              rw [tl_app, ct]
              exact M2
            ·
              have ct := cut_tail ev
              have lX : (tl v).length = q.length + 1 := by rw [ev]; rfl
              have M1 := Mg
              rw [ev] at M1
              have M2 := M1.two
              have ol : (⟨#[b]⟩ : Str).length = 1 := rfl
              refine ⟨.str f, rfl, .str v, rfl, v, 0, b, rfl, rfl, by omega, at_cp (j := 0) rfl (by show (tl v)[0]? = _; rw [ev]; rfl), f, ⟨#[b]⟩, rfl, rfl, by rw [ol]; omega, .str v, rfl, 1, rfl, v, rfl, by omega, _, _, rfl, f ++ ⟨#[b]⟩, u, cutS v (some 1) none, rfl, ?_, (kG).trans k2, T2.mono (by omega), by rw [ct]; omega⟩
              rw [tl_app, ct]
              exact M2
end
end DW
/-! k04: longer words -/
namespace DW
open PySem PySem.Spec PyProof.Rows L2 TL
set_option autoImplicit false
theorem cutS_fr (x : Str) (i : Nat) : tl (cutS x (some (i : Int)) none) = (tl x).drop i := by
  show (x.cps.toList.drop (HT.sIx x.length 0 (some (i : Int)))).take (HT.sIx x.length x.length none - HT.sIx x.length 0 (some (i : Int))) = _
  rw [HT.sIx_none, HT.sIx_nat]
  have e : x.length = x.cps.toList.length := (Array.length_toList).symm
  rw [e]
  by_cases h : i ≤ x.cps.toList.length
  · rw [Nat.min_eq_left h, List.take_of_length_le (by rw [List.length_drop]; omega)]
  · rw [Nat.min_eq_right (by omega), List.drop_eq_nil_of_le (Nat.le_refl _), List.drop_eq_nil_of_le (show (tl x).length ≤ i from by show x.cps.toList.length ≤ i; omega), List.take_nil]
theorem cutS_up (x : Str) (i : Nat) : tl (cutS x none (some (i : Int))) = (tl x).take i := by
  show (x.cps.toList.drop (HT.sIx x.length 0 none)).take (HT.sIx x.length x.length (some (i : Int)) - HT.sIx x.length 0 none) = _
  rw [HT.sIx_none, HT.sIx_nat]
  have e : x.length = x.cps.toList.length := (Array.length_toList).symm
  rw [e]
  by_cases h : i ≤ x.cps.toList.length
  · rw [Nat.min_eq_left h]; rfl
  · rw [Nat.min_eq_right (by omega), List.take_of_length_le (show (tl x).length ≤ i from by show x.cps.toList.length ≤ i; omega)]
    show x.cps.toList.take (x.cps.toList.length - 0) = _
    rw [Nat.sub_zero, List.take_length]
theorem MinC.mg {u v m : List Nat} (M : MinC u v m) : m ∈ mg u v := by
  obtain ⟨m', hm, s⟩ := mg_all m u v M.1
  have : m' = m := by
    rcases Nat.lt_or_ge m'.length m.length with h | h
    · exact absurd (mg_sup _ u v rfl _ hm).1 (M.proper s h)
    · exact s.eq_of_length_le h
  rw [← this]
  exact hm
theorem minc_under {u v : List Nat} : ∀ (n : Nat) (w : List Nat), w.length = n → CSup u v w → ∃ m, MinC u v m ∧ m.Sublist w := by
  intro n
  induction n with
  | zero => exact fun w hw c => ⟨w, ⟨c, fun i hi => by omega⟩, List.Sublist.refl _⟩
  | succ n ih =>
    intro w hw c
    by_cases h : ∀ i, i < w.length → ¬ CSup u v (w.eraseIdx i)
    · exact ⟨w, ⟨c, h⟩, List.Sublist.refl _⟩
    · obtain ⟨i, hi⟩ := Classical.not_forall.mp h
      obtain ⟨il, hn⟩ := Classical.not_imp.mp hi
      obtain ⟨m, M, s⟩ := ih (w.eraseIdx i) (by rw [List.length_eraseIdx_of_lt il]; omega) (Classical.not_not.mp hn)
      exact ⟨m, M, s.trans (List.eraseIdx_sublist _ _)⟩
/-- small words with small signs -/
theorem Mcs.ok {u v : List Nat} {ws : List Str} (M : Mcs u v ws) (l : u.length + v.length ≤ 12) (lo : (∀ c ∈ u, c < 128) ∧ ∀ c ∈ v, c < 128) : ∀ y ∈ ws, (tl y).length ≤ 20 ∧ ∀ c ∈ tl y, c < 128 := fun y hy => by
  have hm := ((M.mem _).mp (List.mem_map.mpr ⟨y, hy, rfl⟩)).mg
  obtain ⟨_, h2, h3⟩ := mg_sup _ u v rfl _ hm
  refine ⟨by omega, fun c hc => ?_⟩
  rcases h3 c hc with q | q
  · exact lo.1 c q
  · exact lo.2 c q
def spLgr (K : PySem.W.Frag) : Sp := fun vs H Q _ => ∃ (t c : Addr) (n : Nat) (x y : Str), vs = [.ref t, .str x, .str y] ∧ Tape H t c n ∧ n + 1000 < 2 ^ 40 ∧ (tl x).length + (tl y).length ≤ 12 ∧ (∀ c ∈ tl x, c < 128) ∧ (∀ c ∈ tl y, c < 128) ∧
  ∀ H', Kp t H H' → Tape H' t c (n + 1000) → Q (.bl true) H'
section
variable {P : Program} {w : World} {K : PySem.W.Frag} {mg' : Str → Option Value} {base : Heap}
theorem scLgr : FnScope ["_law_tape", "_law_word_here", "_law_other", "_law_found", "_law_one", "_law_place", "_law_less", "_law_k", "_law_large"] ["_law_tape", "_law_word_here", "_law_other"] (defScope sLLongRight) := ⟨rfl, rfl, rfl, by decide +kernel, rfl, by decide +kernel, by decide +kernel⟩
theorem ok_lgr (D : Df K mg' "_law_long_right" sLLongRight ["_law_tape", "_law_word_here", "_law_other"]) (Dc : DfCs K mg') (Ds0 : Df K mg' "_law_is_subword" sLIsSubword ["_law_word_here", "_law_other"]) (Dm : Df K mg' "_law_merged" sLMerged ["_law_tape", "_law_word_here", "_law_other"]) (Dd : DfDraw K mg') (M : EX.DfE P K mg' "TooLarge" "limit" EX.MsgOk) : FnOk P w K mg' base CX0 15 D.f D.fd ["_law_tape", "_law_word_here", "_law_other"] (spLgr K) := by
  have Gc : FnOk P w K mg' base (L2.CX P w) 14 Dc.c.f Dc.c.fd ["word", "other"] (spCs K M.C) := ok_cs Dc M
  have Gu : FnOk P w K mg' base CX0 1 Ds0.f Ds0.fd ["_law_word_here", "_law_other"] spSubL := ok_subl Ds0
  have Gm : FnOk P w K mg' base CX0 2 Dm.f Dm.fd ["_law_tape", "_law_word_here", "_law_other"] (spMgd K) := ok_mgd Dm Dd Dc.B.len
  have B := Dc.B
  refine D.F.ok scLgr (fun vs H Q E h => ?_) (fun cdv A outer s H vs Q E hr h => ?_)
  · obtain ⟨t, c, n, x, y, rfl, _⟩ := h
    rfl
  · obtain ⟨t, c, n, x, y, rfl, T, hn, l12, x128, y128, k⟩ := h
    have hr1 : Room 1 _ := hr.mono (by decide)
    have hr2 : Room 2 _ := hr.mono (by decide)
    have hu : A.units + 3 + 66 < cLine := by
      have h1 := hr.un
      have h2 : A.units + 3 + 16 * 14 + 200 < cLine := h1
      omega
    have sl := sizeLine_eq
    have sx : ∀ y : Str, y.length = (tl y).length := fun y => (Array.length_toList).symm
    refine ⟨_, PSs.nox (pss_cons (ps_set (i := 3) scLgr.nd rfl (.inl rfl) (pe_call Gc hr (by rfl) Dc.c.g Dc.c.F.kp Dc.c.b .nil passL (pa_cons (pv 1) (pa_cons (pv 2) pa_nil)))) (pss_cons (ps_for PassesOwn.never rfl (pi_list (pv 3)) (pg_name (i := 4) scLgr.nd rfl (.inl rfl)) (pss_cons (ps_if (pw_or (pt_not (pt_val (pe_call Gu hr1 (by rfl) Ds0.g Ds0.F.kp Ds0.b .nil pass0 (pa_cons (pv 1) (pa_cons (pv 4) pa_nil))))) (pw_or1 (pt_not (pt_val (pe_call Gu hr1 (by rfl) Ds0.g Ds0.F.kp Ds0.b .nil pass0 (pa_cons (pv 2) (pa_cons (pv 4) pa_nil))))))).pt (pss_one (ps_ret pe_bl)) pss_nil) (pss_one (ps_for PassesOwn.never rfl (pi_range1 rfl B.range (pa_cons (pe_callB call_len_str (by rfl) B.len PySem.boot_len (pa_cons (pv 4) pa_nil)) pa_nil)) (pg_name (i := 5) scLgr.nd rfl (.inl rfl)) (pss_cons (ps_set (i := 6) scLgr.nd rfl (.inl rfl) (pe_op op_add_str (pe_slice sl_str (pv 4) po_none (po_some (pv 5))) (pe_slice sl_str (pv 4) (po_some (pe_op op_add (pv 5) pe_int)) po_none))) (pss_one (ps_if (pw_and (pt_val (pe_call Gu hr1 (by rfl) Ds0.g Ds0.F.kp Ds0.b .nil pass0 (pa_cons (pv 1) (pa_cons (pv 6) pa_nil)))) (pw_and1 (pt_val (pe_call Gu hr1 (by rfl) Ds0.g Ds0.F.kp Ds0.b .nil pass0 (pa_cons (pv 2) (pa_cons (pv 6) pa_nil)))))).pt (pss_one (ps_ret pe_bl)) pss_nil))))))) (pss_cons (ps_for PassesOwn.never rfl (pi_range1 rfl B.range (pa_cons pe_int pa_nil)) (pg_name (i := 7) scLgr.nd rfl (.inl rfl)) (pss_cons (ps_set (i := 8) scLgr.nd rfl (.inr rfl) (pe_call Gm hr2 (by rfl) Dm.g Dm.F.kp Dm.b .nil pass0 (pa_cons (pv 0) (pa_cons (pv 1) (pa_cons (pv 2) pa_nil))))) (pss_one (ps_if (pt_cmpR (op_eqD hr.units) (pe_lc (own := [("_law_one", 4)]) (g := gName 4) rfl scLgr.nd (pi_list (pv 3)) (blkOk_by (N := ["_law_tape", "_law_word_here", "_law_other", "_law_found", "_law_one", "_law_place", "_law_less", "_law_k", "_law_large"]) (sc := defScope sLLongRight) (by decide +kernel)) (fun _ _ _ _ _ => pg_name (i := 4) scLgr.nd rfl (Or.inl rfl)) (fun _ _ _ _ _ => (pts_one (pt_val (pe_call Gu hr1 (by rfl) Ds0.g Ds0.F.kp Ds0.b .nil pass0 (pa_cons (pv 4) (pa_cons (pv 8) pa_nil)))))) (fun _ _ _ _ _ => (pv 4))) (pe_lst pa_nil) (nomark _)) (pss_one (ps_ret pe_bl)) pss_nil)))) (pss_one (ps_ret (pe_cmpR (op_eqD hr.units) (SL.pe_sortedLen hu (by rfl) B.sorted (by rfl) B.len (pa_cons (pe_callB (TXB.cr_sortTx rfl hu) (by rfl) B.sorted (by decide +kernel) (pa_cons (pe_callTy (TX.cr_setL rfl) (by rfl) B.set (by decide +kernel) (pa_cons (pv 3) pa_nil)) pa_nil)) pa_nil)) (pv 3) (nomark _))))))), ?_⟩
    refine ⟨.str x, rfl, .str y, rfl, x, y, rfl, by omega, by omega, fun _ H1 q ws s1 nq hq Mc => ?_, fun h => by omega⟩
    have wok := Mc.ok l12 ⟨x128, y128⟩
    have few := Mc.few
    have mem : ∀ u ∈ ws, MinC (tl x) (tl y) (tl u) := fun u hu => (Mc.mem _).mp (List.mem_map.mpr ⟨u, hu, rfl⟩)
    refine ⟨.ref q, rfl, q, rfl, ⟨_, SqL.of hq⟩, for_it (walk_list (xs := ws.map V.str)) (fun i σ H' => ∃ y4 y5 y6, σ = [some (.ref t), some (.str x), some (.str y), some (.ref q), y4, y5, y6, none, none] ∧ H' = H1) ⟨_, _, _, rfl, rfl⟩ (fun _ _ _ _ ⟨_, _, _, _, e⟩ => by rw [e]; exact SqL.of hq) ?_ ?_⟩
    · rintro i v σ G G' hi ⟨y4, y5, y6, rfl, rfl⟩ ⟨rfl, hv⟩
      obtain ⟨u, hu, rfl⟩ := at_strs hv
      have um := List.mem_of_getElem? hu
      have Mu := mem u um
      have ul := (wok u um).1
      have su := sx u
      refine ⟨.str x, rfl, .str u, rfl, x, u, rfl, by omega, fun b hb => ⟨b, rfl, ?_⟩⟩
      have eb : b = true := hb.mpr Mu.1.1
      rw [eb]
      refine iteF ⟨.str y, rfl, .str u, rfl, y, u, rfl, by omega, fun b2 hb2 => ⟨b2, rfl, ?_⟩⟩
      have eb2 : b2 = true := hb2.mpr Mu.1.2
      rw [eb2]
      refine iteF ?_
      refine ⟨.str u, rfl, u, rfl, by omega, _, rfl, by omega, by omega, for_it (n := ((u.length : Nat) : Int).toNat) walk_range (fun j σ H' => ∃ y5 y6, σ = [some (.ref t), some (.str x), some (.str y), some (.ref q), some (.str u), y5, y6, none, none] ∧ H' = G') ⟨_, _, rfl, rfl⟩ (fun _ _ _ _ _ => trivial) ?_ ?_⟩
      · rintro j x0 σ M0 M1 hj ⟨y5', y6', rfl, rfl⟩ ⟨rfl, rfl⟩
        have jl : j < (tl u).length := by omega
        have ej : (0 + (j : Int)) = (j : Int) := by omega
        have e1 : tl (cutS u none (some (0 + (j : Int)))) = (tl u).take j := by rw [ej, cutS_up]
        have e2 : tl (cutS u (some (0 + (j : Int) + 1)) none) = (tl u).drop (j + 1) := by rw [show (0 + (j : Int) + 1) = ((j + 1 : Nat) : Int) by omega, cutS_fr]
        have l1 : (cutS u none (some (0 + (j : Int)))).length ≤ 100 := by
          rw [sx, e1, List.length_take]
          omega
        have l2 : (cutS u (some (0 + (j : Int) + 1)) none).length ≤ 100 := by
          rw [sx, e2, List.length_drop]
          omega
        refine ⟨.str u, rfl, ?_⟩
        unfold tNoPart
        refine ⟨.int (0 + (j : Int)), rfl, _, rfl, u, rfl, by omega, .str u, rfl, .int (0 + (j : Int)), rfl, _, _, rfl, rfl, _, rfl, u, rfl, by omega, _, _, rfl, rfl, by omega, ?_⟩
        have el : tl (cutS u none (some (0 + (j : Int))) ++ cutS u (some (0 + (j : Int) + 1)) none) = (tl u).eraseIdx j := by
          rw [tl_app, e1, e2, List.eraseIdx_eq_take_drop_succ]
        generalize cutS u none (some (0 + (j : Int))) ++ cutS u (some (0 + (j : Int) + 1)) none = le at el ⊢
        have no := Mu.2 j jl
        refine ⟨.str x, rfl, .str le, rfl, x, le, rfl, by omega, fun b hb => ⟨b, rfl, ?_⟩⟩
        cases b with
        | false => exact iteF (iteF ⟨_, _, rfl, rfl⟩)
        | true =>
          refine iteT ⟨.str y, rfl, .str le, rfl, y, le, rfl, by omega, fun b2 hb2 => ⟨b2, rfl, ?_⟩⟩
          cases b2 with
          | false => exact iteF ⟨_, _, rfl, rfl⟩
          | true =>
            rw [el] at hb hb2
            exact absurd ⟨hb.mp rfl, hb2.mp rfl⟩ no
      · rintro σ M1 ⟨y5', y6', rfl, rfl⟩
        exact ⟨_, _, _, rfl, rfl⟩
    · rintro σ G ⟨y4, y5, y6, rfl, rfl⟩
      have TG := T.same s1
      have k01 := T.kp s1
      refine ⟨3, rfl, by decide, by decide, for_it walk_range (fun j σ H' => ∃ y4 y5 y6 y7 y8, σ = [some (.ref t), some (.str x), some (.str y), some (.ref q), y4, y5, y6, y7, y8] ∧ Kp t H H' ∧ Tape H' t c (n + 200 * j) ∧ H' q = some (.lst (ws.map V.str))) ⟨_, _, _, _, _, rfl, k01, TG.mono (by omega), hq⟩ (fun _ _ _ _ _ => trivial) ?_ ?_⟩
      · rintro j x0 σ M0 M1 hj ⟨y4', y5', y6', y7', y8', rfl, kM, TM, gq⟩ ⟨rfl, rfl⟩
        have j3 : j < 3 := hj
        refine ⟨.ref t, rfl, .str x, rfl, .str y, rfl, t, c, _, x, y, rfl, TM, by omega, by omega, fun M2 u k2 T2 cs ul => ?_⟩
        have gq2 := k2.at gq (fun _ z => by cases z)
        refine ⟨.ref q, rfl, q, rfl, ⟨_, SqL.of gq2⟩, fun O hO => ?_⟩
        let sb : Str → Bool := fun o => (tl o).isSublist (tl u)
        refine lc_it (walk_list (xs := ws.map V.str)) (fun i H' => H' O = some (.lst (((ws.take i).filter sb).map V.str)) ∧ Same M2 H') ⟨upd_same, same_upd hO⟩ (fun _ _ _ ⟨_, sm⟩ => SqL.of (sm _ _ gq2)) ?_ ?_
        · rintro i z N2 N3 hi ⟨gO, sN⟩ ⟨rfl, hz⟩
          obtain ⟨o, ho, rfl⟩ := at_strs hz
          have om := List.mem_of_getElem? ho
          have tk : (ws.take (i + 1)).filter sb = (ws.take i).filter sb ++ ([o] : List Str).filter sb := by
            rw [List.take_add_one, ho, List.filter_append]
            rfl
          refine ⟨rfl, .str o, rfl, .str u, rfl, o, u, rfl, by have := (wok o om).1; omega, fun b hb => ⟨b, rfl, ?_⟩⟩
          have eb : sb o = b := by
            rw [Bool.eq_iff_iff, hb]
            exact List.isSublist_iff_sublist
          cases b with
          | true =>
            refine iteT ⟨_, rfl, _, gO, ?_, ?_, fun b o e => (upd_ne (ne_of_none e hO)).trans (sN _ _ e)⟩
            · have := List.length_filter_le sb (ws.take i)
              rw [List.length_take] at this
              rw [List.length_map]
              omega
            · rw [upd_same, tk, List.filter_cons_of_pos eb, List.map_append]
              rfl
          | false =>
            refine iteF ⟨?_, sN⟩
            rw [tk, List.filter_cons_of_neg (by rw [eb]; decide)]
            show _ = some (HO.lst ((_ ++ []).map V.str))
            rw [List.append_nil]
            exact gO
        rintro N2 ⟨gO, sN⟩
        rw [List.length_map, List.take_length] at gO
        have fw : ∀ o ∈ ws.filter sb, o ∈ ws := fun o ho => (List.mem_filter.mp ho).1
        refine ⟨Nat.zero_le _, fun q2 hq2 => ?_⟩
        have sq2 := same_upd (o := .lst []) hq2
        refine ⟨strD (ws.filter sb), .list [], str_dp (SqL.of (sq2 _ _ gO)), .lst (SqL.of upd_same) .nil, str_shaped (fun o ho => wok o (fw o ho)), by decide +kernel, ?_⟩
        have some1 : PyData.eqv (strD (ws.filter sb)) (.list []) = false := by
          rw [str_eqv_nil]
          refine Bool.eq_false_iff.mpr fun h => ?_
          rw [List.isEmpty_iff, List.filter_eq_nil_iff] at h
          obtain ⟨m, Mm, s⟩ := minc_under _ (tl u) rfl cs
          obtain ⟨o, ho, rfl⟩ := List.mem_map.mp ((Mc.mem m).mpr Mm)
          exact h o ho (List.isSublist_iff_sublist.mpr s)
        rw [some1]
        have sM := sN.trans sq2
        exact ⟨_, rfl, iteF ⟨_, _, _, _, _, rfl, (kM.trans k2).trans (T2.kp sM), (T2.same sM).mono (by omega), sM _ _ gq2⟩⟩
      · rintro σ M1 ⟨y4', y5', y6', y7', y8', rfl, kM, TM, gq⟩
        refine ⟨.ref q, rfl, q, ws, rfl, SqL.of gq, by unfold scanBound; omega, fun a ls ea nd memL le => ?_⟩
        have sa := same_upd (o := TX.SetTx P w a ls) ea
        refine ⟨a, ls, rfl, upd_same, by unfold scanBound; omega, fun ys p pm so hp => ?_⟩
        have sp := same_upd (o := .lst (ys.map V.str)) hp
        have my : ∀ u, u ∈ ys → u ∈ ws := fun u hu => (memL u).mp (pm.mem_iff.mp hu)
        have yl : ys.length ≤ ws.length := by rw [pm.length_eq]; exact le
        refine ⟨p, ys, rfl, SqL.of upd_same, fun u hu => ?_, by omega, fun q3 hq3 => ?_⟩
        · have := (wok u (my u hu)).1
          rw [sx]
          omega
        have sq := same_upd (o := .lst ((SL.byLen ys).map V.str)) hq3
        have S := slx_of nd memL pm so
        have same : SL.byLen ys = ws := by
          have e : (SL.byLen ys).map tl = ws.map tl := slt_uniq (List.pairwise_map.mpr S.slt) Mc.slt fun m => by
            rw [List.mem_map, List.mem_map]
            exact ⟨fun ⟨u, hu, e⟩ => ⟨u, (S.mem u).mp hu, e⟩, fun ⟨u, hu, e⟩ => ⟨u, (S.mem u).mpr hu, e⟩⟩
          have inj : ∀ {l m : List Str}, l.map tl = m.map tl → l = m := by
            intro l
            induction l with
            | nil => intro m h; cases m with
              | nil => rfl
              | cons a m => cases h
            | cons a l ih => intro m h; cases m with
              | nil => cases h
              | cons b m =>
                rw [List.map_cons, List.map_cons] at h
                rw [tl_inj (List.cons.inj h).1, ih (List.cons.inj h).2]
          exact inj e
        rw [same] at sq ⊢
        have sall := (sa.trans sp).trans sq
        refine ⟨.ref q, rfl, strD ws, strD ws, str_dp (SqL.of upd_same), str_dp (SqL.of (sall _ _ gq)), str_shaped wok, str_shaped wok, ?_⟩
        rw [str_eqv wok]
        exact k _ (kM.trans (TM.kp sall)) ((TM.same sall).mono (by omega))
end
end DW
/-! text * number -/
namespace DW
open PySem PySem.Spec PyProof.Rows L2 TL
set_option autoImplicit false
theorem foldl_app : ∀ (l : List (Array Nat)) (acc : Array Nat), (l.foldl (· ++ ·) acc).toList = acc.toList ++ (l.map Array.toList).flatten
  | [], acc => by simp
  | a :: r, acc => by
    rw [List.foldl_cons, foldl_app r, Array.toList_append, List.map_cons, List.flatten_cons, List.append_assoc]
theorem tl_mul (z : Str) (k : Int) : tl (Txt.mul z k) = (List.replicate k.toNat (tl z)).flatten := by
  unfold Txt.mul
  by_cases h : k < 1
  · rw [if_pos h, show k.toNat = 0 by omega]
    rfl
  · rw [if_neg h]
    by_cases h2 : (k == 1 || z.length == 0) = true
    · rw [if_pos h2]
      rw [Bool.or_eq_true] at h2
      rcases h2 with e | e
      · rw [eq_of_beq e]
        simp
      · have e0 : tl z = [] := List.length_eq_zero_iff.mp (by rw [Array.length_toList]; exact eq_of_beq e)
        rw [e0]
        simp
    · rw [if_neg h2]
      show ((List.replicate k.toNat z.cps).foldl (· ++ ·) #[]).toList = _
      rw [foldl_app, List.map_replicate]
      simp
section
variable {X : Cx}
def rRepS : R2 := fun x y H Q => ∃ (z : Str) (k : Int), x = .str z ∧ y = .int k ∧ 0 ≤ k ∧ k ≤ 1000 ∧ z.length ≤ 1000 ∧ ∀ r : Str, tl r = (List.replicate k.toNat (tl z)).flatten → Q (.str r) H
theorem op_repS : OpR X (binaryOp .Mult) rRepS := by
  intro pins s σ H x y v u Q I rx ry h
  obtain ⟨z, k, rfl, rfl, k0, k1, zl, q⟩ := h
  obtain ⟨t, rfl⟩ := rx
  obtain ⟨t2, rfl⟩ := ry
  have pr : z.length * k.toNat ≤ 1000 * 1000 := Nat.mul_le_mul zl (by omega)
  refine SB.mul ⟨?_, fun h1 _ h3 => ?_, fun _ _ => ?_⟩ fun t' tk => ⟨.str (Txt.mul z k), H, I.tok _, ⟨_, rfl⟩, q _ (tl_mul z k)⟩
  · have a : ¬ k < -(2 ^ 63) := by omega
    have b : ¬ k ≥ 2 ^ 63 := by omega
    simp [a, b]
    omega
  · have e : (z.length : Int) ≤ (2 ^ 63 - 1) / k := by
      rw [Int.le_ediv_iff_mul_le (by omega)]
      have : ((z.length * k.toNat : Nat) : Int) ≤ 1000 * 1000 := by exact_mod_cast pr
      rw [Int.natCast_mul, Int.toNat_of_nonneg k0] at this
      omega
    omega
  · unfold Builtin.Str.tooLong
    rw [sizeLine_eq]
    simp
    omega
end
end DW
namespace DW
open PySem PySem.Spec PyProof.Rows L2 TL
def clsBody (s : Stmt) : List Stmt := match s with
  | .ClassDef _ _ _ b _ _ _ _ _ _ _ => b
  | _ => []
def clsS (i j : Nat) : Stmt := (clsBody (topS i)).getD j (.Pass ⟨0, 0, 0, 0⟩)
end DW
/-! k04: the law -/
namespace DW
open PySem PySem.Spec PyProof.Rows L2 TL
set_option autoImplicit false
theorem str_shownB {ws : List Str} (h : ∀ u ∈ ws, (tl u).length ≤ 20 ∧ ∀ c ∈ tl u, c < 128) (hl : ws.length ≤ 2048) : (strD ws).showable = true ∧ (strD ws).hasDict = false ∧ (strD ws).depth ≤ 64 ∧ (strD ws).shown.length ≤ sizeLine := by
  obtain ⟨h1, h2, h3, h4, h5, h6⟩ := str_ok ws h
  have d1 : (strD ws).depth = 1 := by
    unfold strD
    simp only [PyData.depth, h2]
  refine ⟨by unfold strD; simp only [PyData.showable, h4], by unfold strD; simp only [PyData.hasDict, h5], by omega, ?_⟩
  have lay : PyData.layable0 (strD ws) = true := by
    unfold PyData.layable0
    rw [Bool.and_eq_true, Bool.and_eq_true]
    refine ⟨⟨by unfold strD; simp only [PyData.canLay0, h1], decide_eq_true (by omega)⟩, decide_eq_true ?_⟩
    unfold strD
    simp only [PyData.weight]
    omega
  have := shown_le13 lay (by unfold strD; simp only [PyData.intsShort, h6])
  rw [sizeLine_eq]
  omega

theorem strs_inj : ∀ {l m : List Str}, l.map tl = m.map tl → l = m
  | [], [], _ => rfl
  | [], _ :: _, h => by cases h
  | _ :: _, [], h => by cases h
  | a :: l, b :: m, h => by
    rw [List.map_cons, List.map_cons] at h
    rw [tl_inj (List.cons.inj h).1, strs_inj (List.cons.inj h).2]
theorem Mcs.eq {u v : List Nat} {ws ys : List Str} (A : Mcs u v ws) (h1 : (ys.map tl).Pairwise DW.slt) (h2 : ∀ m, m ∈ ys.map tl ↔ MinC u v m) : ws = ys :=
  strs_inj (slt_uniq A.slt h1 fun m => by rw [A.mem, h2])
theorem minc_comm {u v m : List Nat} : MinC u v m ↔ MinC v u m := by
  have : ∀ {u v m : List Nat}, MinC u v m → MinC v u m := fun {u v m} M => ⟨⟨M.1.2, M.1.1⟩, fun i hi c => M.2 i hi ⟨c.2, c.1⟩⟩
  exact ⟨this, this⟩
theorem minc_rep (a b d : Nat) (m : List Nat) : MinC (List.replicate a d) (List.replicate b d) m ↔ m = List.replicate (max a b) d := by
  have sup : ∀ w, CSup (List.replicate a d) (List.replicate b d) w → (List.replicate (max a b) d).Sublist w := fun w c => by
    rcases Nat.le_total a b with h | h
    · rw [Nat.max_eq_right h]; exact c.2
    · rw [Nat.max_eq_left h]; exact c.1
  have cm : CSup (List.replicate a d) (List.replicate b d) (List.replicate (max a b) d) :=
    ⟨(List.replicate_sublist_replicate _).mpr (Nat.le_max_left _ _), (List.replicate_sublist_replicate _).mpr (Nat.le_max_right _ _)⟩
  constructor
  · intro M
    have s := sup m M.1
    rcases Nat.lt_or_ge (List.replicate (max a b) d).length m.length with h | h
    · exact absurd cm (M.proper s h)
    · exact (s.eq_of_length_le h).symm
  · rintro rfl
    refine ⟨cm, fun i hi c => ?_⟩
    have := (sup _ c).length_le
    rw [List.length_eraseIdx_of_lt hi, List.length_replicate] at this
    rw [List.length_replicate] at hi
    omega
theorem slt_before {ws : List Str} (pw : (ws.map tl).Pairwise DW.slt) {i : Nat} {o m : Str} (ho : ws[i]? = some o) (hm : m ∈ ws) (lt : slt (tl m) (tl o)) : m ∈ ws.take i := by
  obtain ⟨j, hj⟩ := List.getElem?_of_mem hm
  obtain ⟨li, ei⟩ := List.getElem?_eq_some_iff.mp ho
  obtain ⟨lj, ej⟩ := List.getElem?_eq_some_iff.mp hj
  have pw := List.pairwise_iff_getElem.mp (List.pairwise_map.mp pw)
  rcases Nat.lt_trichotomy j i with h | h | h
  · refine List.mem_iff_getElem?.mpr ⟨j, ?_⟩
    rw [List.getElem?_take, if_pos h]
    exact hj
  · subst h
    rw [ho] at hj
    cases hj
    exact (slt_irr lt).elim
  · have := pw i j li lj h
    rw [ei, ej] at this
    exact (slt_irr (slt_trans lt this)).elim
theorem slt_take {ws : List Str} (pw : (ws.map tl).Pairwise slt) {i : Nat} {o : Str} (ho : ws[i]? = some o) : o ∉ ws.take i := fun hm => by
  obtain ⟨j, hj⟩ := List.getElem?_of_mem hm
  rw [List.getElem?_take] at hj
  split at hj
  · next h =>
    obtain ⟨li, ei⟩ := List.getElem?_eq_some_iff.mp ho
    obtain ⟨lj, ej⟩ := List.getElem?_eq_some_iff.mp hj
    have := List.pairwise_iff_getElem.mp (List.pairwise_map.mp pw) j i lj li h
    rw [ei, ej] at this
    exact slt_irr this
  · cases hj
/-- a word over the alphabet, so long -/
def WO (z : Str) (n : Nat) (u : Str) : Prop := OverW z u ∧ (tl u).length ≤ n
theorem wo_cut {z : Str} {n : Nat} {u : Str} (h : WO z n u) (lo hi : Option Int) : WO z n (cutS u lo hi) := by
  have e : tl (cutS u lo hi) = ((tl u).drop (HT.sIx u.length 0 lo)).take (HT.sIx u.length u.length hi - HT.sIx u.length 0 lo) := rfl
  refine ⟨fun c hc => ?_, ?_⟩
  · rw [e] at hc
    exact h.1 c (List.mem_of_mem_drop (List.mem_of_mem_take hc))
  · rw [e, List.length_take, List.length_drop]
    have := h.2
    omega
theorem wo_rev {z : Str} {n : Nat} {u : Str} (h : WO z n u) : WO z n ⟨u.cps.toList.reverse.toArray⟩ := by
  have e : tl (⟨u.cps.toList.reverse.toArray⟩ : Str) = (tl u).reverse := rfl
  refine ⟨fun c hc => ?_, ?_⟩
  · rw [e] at hc
    exact h.1 c (List.mem_reverse.mp hc)
  · rw [e, List.length_reverse]
    exact h.2
theorem wo_app {z : Str} {n m : Nat} {u v : Str} (h : WO z n u) (g : WO z m v) : WO z (n + m) (u ++ v) := by
  refine ⟨fun c hc => ?_, ?_⟩
  · rw [tl_app] at hc
    rcases List.mem_append.mp hc with q | q
    · exact h.1 c q
    · exact g.1 c q
  · rw [tl_app, List.length_append]
    have := h.2
    have := g.2
    omega
theorem cut_some (u : Str) (n : Nat) : (tl (cutS u none (some (n : Int)))).length ≤ n := by
  rw [cutS_up, List.length_take]
  omega
section
variable {P : Program} {w : World} {K : PySem.W.Frag} {mg : Str → Option Value} {base : Heap}
structure Ds (P : Program) (K : PySem.W.Frag) (mg : Str → Option Value) where
  p_first_positions : Df K mg "first_positions" sFirstPositions ["word", "other"]
  p_is_subword : Df K mg "is_subword" sIsSubword ["word", "other"]
  p_has_proper_subword : Df K mg "has_proper_subword" sHasProperSubword ["word", "words"]
  p_in_shortlex_order : Df K mg "in_shortlex_order" sInShortlexOrder ["words"]
  p_minimal_words : Df K mg "minimal_words" sMinimalWords ["words"]
  p_merged_words : Df K mg "merged_words" sMergedWords ["word", "other"]
  p_common_superwords : Df K mg "common_superwords" sCommonSuperwords ["word", "other"]
  begin : Df K mg "_law_begin" sBegin ["_law_script"]
  draw : Df K mg "_law_draw" sDraw ["_law_tape", "_law_many"]
  pick : Df K mg "_law_pick" sPick ["_law_tape", "_law_items"]
  alphabet : Df K mg "_law_alphabet" sAlpha ["_law_tape"]
  word : Df K mg "_law_word" sWord ["_law_tape", "_law_alphabet_here", "_law_longest"]
  is_subword : Df K mg "_law_is_subword" sLIsSubword ["_law_word_here", "_law_other"]
  words : Df K mg "_law_words" sLWords ["_law_alphabet_here", "_law_longest"]
  is_refused : Df K mg "_law_is_refused" sLIsRefused ["_law_word_here", "_law_other"]
  merged : Df K mg "_law_merged" sLMerged ["_law_tape", "_law_word_here", "_law_other"]
  long_right : Df K mg "_law_long_right" sLLongRight ["_law_tape", "_law_word_here", "_law_other"]
  B : Bl mg
  b_tuple : mg "tuple" = none
  b_isinstance : mg "isinstance" = none
  b_min : mg "min" = none
  b_repr : mg "repr" = none
  b_max : mg "max" = none
  c_SUPERWORD_LIMIT : ∃ t, mg "SUPERWORD_LIMIT" = some (.int 12 t)
  e_DownwordsError : EX.DfE0 K mg "DownwordsError"
  e_TooLarge : EX.DfE P K mg "TooLarge" "limit" EX.MsgOk
  e_TooMany : EX.DfE P K mg "TooMany" "limit" EX.MsgOk
  k_TooLarge_DownwordsError : PySem.W.kitOne K (.ref e_TooLarge.C) (.ref e_DownwordsError.C) = some true
  k_TooLarge_TooMany : PySem.W.kitOne K (.ref e_TooLarge.C) (.ref e_TooMany.C) = some false
  m_TooLarge_TooLarge : PySem.W.exmOne K (.ref e_TooLarge.C) (.ref e_TooLarge.C) = some true
def spLaw (K : PySem.W.Frag) : Sp := fun vs H Q _ => ∃ (a : Addr) (ns : List Int), vs = [.ref a] ∧ SqL K H a (ns.map V.int) ∧ ∀ H', Q (.bl true) H'
theorem scLaw : FnScope ["_law_script", "_law_tape", "_law_turn", "_law_alphabet_here", "_law_word_here", "_law_other", "_law_both", "_law_one", "_law_again", "_law_found", "_law_long", "_law_more", "_law_letter", "_law_many", "_law_less", "_law_k"] ["_law_script"] (defScope sLaw) := ⟨rfl, rfl, rfl, by decide +kernel, rfl, by decide +kernel, by decide +kernel⟩
theorem ok_law (D : Df K mg "law" sLaw ["_law_script"]) (S : Ds P K mg) : GA.FnAt P w K mg base D.f D.fd ["_law_script"] (spLaw K) := by
  have Gb : FnOk P w K mg base CX0 1 S.begin.f S.begin.fd ["_law_script"] (spBegin K) := ok_begin S.begin
  have Gd : FnOk P w K mg base CX0 1 S.draw.f S.draw.fd ["_law_tape", "_law_many"] spDraw := ok_draw S.draw S.B.len
  have Gp : FnOk P w K mg base CX0 2 S.pick.f S.pick.fd ["_law_tape", "_law_items"] (spPick K) := ok_pick S.pick S.draw S.B.len
  have Ga : FnOk P w K mg base CX0 3 S.alphabet.f S.alphabet.fd ["_law_tape"] spAlpha := ok_alpha S.alphabet S.draw S.pick S.B
  have Go : FnOk P w K mg base CX0 3 S.word.f S.word.fd ["_law_tape", "_law_alphabet_here", "_law_longest"] spWord := ok_word S.word S.draw S.pick S.B
  have Gu : FnOk P w K mg base CX0 1 S.is_subword.f S.is_subword.fd ["_law_word_here", "_law_other"] spSubL := ok_subl S.is_subword
  have Gw : FnOk P w K mg base CX0 1 S.words.f S.words.fd ["_law_alphabet_here", "_law_longest"] spWords := ok_words S.words S.B
  let Dc : DfCs K mg := ⟨S.p_common_superwords, S.p_merged_words, S.p_minimal_words, S.p_in_shortlex_order, S.p_has_proper_subword, S.p_is_subword, S.p_first_positions, S.b_tuple, S.B, S.c_SUPERWORD_LIMIT⟩
  have Gc : FnOk P w K mg base (L2.CX P w) 14 Dc.c.f Dc.c.fd ["word", "other"] (spCs K S.e_TooLarge.C) := ok_cs Dc S.e_TooLarge
  have Gl : FnOk P w K mg base CX0 15 S.long_right.f S.long_right.fd ["_law_tape", "_law_word_here", "_law_other"] (spLgr K) := ok_lgr S.long_right Dc S.is_subword S.merged S.draw S.e_TooLarge
  have Gr : FnOk P w K mg base CX0 15 S.is_refused.f S.is_refused.fd ["_law_word_here", "_law_other"] (spRf K) := ok_rf S.is_refused Dc ⟨S.e_TooLarge, S.e_TooMany, S.e_DownwordsError, S.k_TooLarge_DownwordsError, S.k_TooLarge_TooMany, S.m_TooLarge_TooLarge⟩ S.b_isinstance
  refine GA.okAt (k := 15) D.F scLaw ⟨rfl, by decide, by decide⟩ (fun vs H Q E h => ?_) (fun cdv s H vs Q E hr h => ?_)
  · obtain ⟨a, ns, rfl, _⟩ := h
    rfl
  · obtain ⟨a, ns, rfl, hS, k⟩ := h
    have hr1 : Room 1 _ := hr.mono (by decide)
    have hr2 : Room 2 _ := hr.mono (by decide)
    have hr3 : Room 3 _ := hr.mono (by decide)
    have hr14 : Room 14 _ := hr.mono (by decide)
    have hu0 : (callerA.deeper (envOfC "law" (defScope sLaw) s.heap.objs.size D.f cdv)).units + 66 < cLine := by have := hr.un; omega
    have rR : CallR (cxOf CX0 P w K mg base ["_law_script", "_law_tape", "_law_turn", "_law_alphabet_here", "_law_word_here", "_law_other", "_law_both", "_law_one", "_law_again", "_law_found", "_law_long", "_law_more", "_law_letter", "_law_many", "_law_less", "_law_k"] "law" (defScope sLaw) D.f cdv callerA [] s H E).nox (.builtin "repr") (fun xs H Q => ∃ (a : Addr) (d : PyData), xs = [.ref a] ∧ Dp K H (.ref a) d ∧ d.showable = true ∧ d.hasDict = false ∧ d.depth ≤ 64 ∧ d.shown.length ≤ sizeLine ∧ Q (.str d.shown) H) := GA.cr_reprD rfl hu0
    have sl := sizeLine_eq
    have sx : ∀ y : Str, y.length = (tl y).length := fun y => (Array.length_toList).symm
    refine ⟨_, PSs.nox (pss_cons (ps_set (i := 1) scLaw.nd rfl (.inr rfl) (pe_call Gb hr1 (by rfl) S.begin.g S.begin.F.kp S.begin.b .nil pass0 (pa_cons (pv 0) pa_nil))) (pss_cons (ps_for PassesOwn.never rfl (pi_range1 rfl S.B.range (pa_cons pe_int pa_nil)) (pg_name (i := 2) scLaw.nd rfl (.inl rfl)) (pss_cons (ps_set (i := 3) scLaw.nd rfl (.inr rfl) (pe_call Ga hr3 (by rfl) S.alphabet.g S.alphabet.F.kp S.alphabet.b .nil pass0 (pa_cons (pv 1) pa_nil))) (pss_cons (ps_set (i := 4) scLaw.nd rfl (.inl rfl) (pe_call Go hr3 (by rfl) S.word.g S.word.F.kp S.word.b .nil pass0 (pa_cons (pv 1) (pa_cons (pv 3) (pa_cons pe_int pa_nil))))) (pss_cons (ps_set (i := 5) scLaw.nd rfl (.inl rfl) (pe_call Go hr3 (by rfl) S.word.g S.word.F.kp S.word.b .nil pass0 (pa_cons (pv 1) (pa_cons (pv 3) (pa_cons (pe_callB (call_min2 rfl) (by rfl) S.b_min (by decide +kernel) (pa_cons pe_int (pa_cons (pe_op op_sub pe_int (pe_callB call_len_str (by rfl) S.B.len PySem.boot_len (pa_cons (pv 4) pa_nil))) pa_nil))) pa_nil))))) (pss_cons (ps_set (i := 5) scLaw.nd rfl (.inl rfl) (pe_call Gp hr2 (by rfl) S.pick.g S.pick.F.kp S.pick.b .nil pass0 (pa_cons (pv 1) (pa_cons (pe_lst (pa_cons (pv 5) (pa_cons (pv 5) (pa_cons (pe_slice sl_str (pv 4) po_none (po_some (pe_op op_sub pe_int (pe_callB call_len_str (by rfl) S.B.len PySem.boot_len (pa_cons (pv 4) pa_nil))))) (pa_cons (pe_slice sl_str (R1.pe_revS (pv 4)) po_none (po_some (pe_op op_sub pe_int (pe_callB call_len_str (by rfl) S.B.len PySem.boot_len (pa_cons (pv 4) pa_nil))))) pa_nil))))) pa_nil)))) (pss_cons (ps_set (i := 6) scLaw.nd rfl (.inl rfl) (pe_lst pa_nil)) (pss_cons (ps_for PassesOwn.never rfl (pi_list (pe_call Gw hr1 (by rfl) S.words.g S.words.F.kp S.words.b .nil pass0 (pa_cons (pv 3) (pa_cons (pe_op op_add (pe_callB call_len_str (by rfl) S.B.len PySem.boot_len (pa_cons (pv 4) pa_nil)) (pe_callB call_len_str (by rfl) S.B.len PySem.boot_len (pa_cons (pv 5) pa_nil))) pa_nil)))) (pg_name (i := 7) scLaw.nd rfl (.inr rfl)) (pss_one (ps_if (pw_and (pt_val (pe_call Gu hr1 (by rfl) S.is_subword.g S.is_subword.F.kp S.is_subword.b .nil pass0 (pa_cons (pv 4) (pa_cons (pv 7) pa_nil)))) (pw_and1 (pt_val (pe_call Gu hr1 (by rfl) S.is_subword.g S.is_subword.F.kp S.is_subword.b .nil pass0 (pa_cons (pv 5) (pa_cons (pv 7) pa_nil)))))).pt (pss_one (ps_if (pt_cmpR (op_eqD hr.units) (pe_lc (own := [("_law_less", 14)]) (g := gName 14) rfl scLaw.nd (pi_list (pv 6)) (blkOk_by (N := ["_law_script", "_law_tape", "_law_turn", "_law_alphabet_here", "_law_word_here", "_law_other", "_law_both", "_law_one", "_law_again", "_law_found", "_law_long", "_law_more", "_law_letter", "_law_many", "_law_less", "_law_k"]) (sc := defScope sLaw) (by decide +kernel)) (fun _ _ _ _ _ => pg_name (i := 14) scLaw.nd rfl (Or.inl rfl)) (fun _ _ _ _ _ => (pts_one (pt_val (pe_call Gu hr1 (by rfl) S.is_subword.g S.is_subword.F.kp S.is_subword.b .nil pass0 (pa_cons (pv 14) (pa_cons (pv 7) pa_nil)))))) (fun _ _ _ _ _ => (pv 14))) (pe_lst pa_nil) (nomark _)) (pss_one (ps_expr (pe_bm PySem.F.plainAttrs_list PySem.F.slot_list_append PySem.F.type_list_append mt_append (pv 6) (pa_cons (pv 7) pa_nil)))) pss_nil)) pss_nil))) (pss_one (ps_for PassesOwn.never rfl (pi_range1 rfl S.B.range (pa_cons pe_int pa_nil)) (pg_name (i := 8) scLaw.nd rfl (.inl rfl)) (pss_cons (ps_set (i := 9) scLaw.nd rfl (.inl rfl) (pe_call Gc hr14 (by rfl) Dc.c.g Dc.c.F.kp Dc.c.b .nil passL (pa_cons (pv 4) (pa_cons (pv 5) pa_nil)))) (pss_cons (ps_if (pw_or (pt_cmpR op_ne (pe_callB rR (by rfl) S.b_repr (by decide +kernel) (pa_cons (pv 9) pa_nil)) (pe_callB rR (by rfl) S.b_repr (by decide +kernel) (pa_cons (pv 6) pa_nil)) (nomark _)) (pw_or1 (pt_cmpR (op_neD hr.units) (pe_call Gc hr14 (by rfl) Dc.c.g Dc.c.F.kp Dc.c.b .nil passL (pa_cons (pv 5) (pa_cons (pv 4) pa_nil))) (pv 6) (nomark _)))).pt (pss_one (ps_ret pe_bl)) pss_nil) (pss_one (ps_expr (pe_bm PySem.F.plainAttrs_list PySem.F.slot_list_append PySem.F.type_list_append mt_append (pv 9) (pa_cons pe_str pa_nil))))))))))))))) (pss_cons (ps_par (i := 4) (j := 5) rfl scLaw.nd rfl rfl (by decide) rfl rfl (pa_cons (pe_call Go hr3 (by rfl) S.word.g S.word.F.kp S.word.b .nil pass0 (pa_cons (pv 1) (pa_cons (pv 3) (pa_cons pe_int pa_nil)))) (pa_cons (pe_call Go hr3 (by rfl) S.word.g S.word.F.kp S.word.b .nil pass0 (pa_cons (pv 1) (pa_cons (pv 3) (pa_cons pe_int pa_nil)))) pa_nil)) (by rfl)) (pss_cons (ps_set (i := 10) scLaw.nd rfl (.inl rfl) (pe_join pe_str (pe_lc (own := [("_law_k", 15)]) (g := gName 15) rfl scLaw.nd (pi_range1 rfl S.B.range (pa_cons pe_int pa_nil)) (blkOk_by (N := ["_law_script", "_law_tape", "_law_turn", "_law_alphabet_here", "_law_word_here", "_law_other", "_law_both", "_law_one", "_law_again", "_law_found", "_law_long", "_law_more", "_law_letter", "_law_many", "_law_less", "_law_k"]) (sc := defScope sLaw) (by decide +kernel)) (fun _ _ _ _ _ => pg_name (i := 15) scLaw.nd rfl (Or.inl rfl)) (fun _ _ _ _ _ => pts_nil) (fun _ _ _ _ _ => (pe_call Gp hr2 (by rfl) S.pick.g S.pick.F.kp S.pick.b .nil pass0 (pa_cons (pv 1) (pa_cons (pv 3) pa_nil))))))) (pss_cons (ps_set (i := 11) scLaw.nd rfl (.inl rfl) (pe_slice sl_str (pe_call Gp hr2 (by rfl) S.pick.g S.pick.F.kp S.pick.b .nil pass0 (pa_cons (pv 1) (pa_cons (pe_lst (pa_cons (R1.pe_revS (pv 10)) (pa_cons (pe_op op_add_str (pe_slice sl_str (pv 10) (po_some pe_int) po_none) (pe_slice sl_str (pv 10) po_none (po_some pe_int))) (pa_cons (pe_op op_add_str (R1.pe_revS (pe_slice sl_str (pv 10) (po_some pe_int) po_none)) (pe_slice sl_str (pv 10) po_none (po_some pe_int))) pa_nil)))) pa_nil))) po_none (po_some (pe_op op_sub pe_int (pe_call Gd hr1 (by rfl) S.draw.g S.draw.F.kp S.draw.b .nil pass0 (pa_cons (pv 1) (pa_cons pe_int pa_nil))))))) (pss_cons (ps_if (pw_or (pt_not (pt_val (pe_call Gl hr (by rfl) S.long_right.g S.long_right.F.kp S.long_right.b .nil pass0 (pa_cons (pv 1) (pa_cons (pv 4) (pa_cons (pv 5) pa_nil)))))) (pw_or1 (pt_not (pt_val (pe_call Gl hr (by rfl) S.long_right.g S.long_right.F.kp S.long_right.b .nil pass0 (pa_cons (pv 1) (pa_cons (pv 10) (pa_cons (pv 11) pa_nil)))))))).pt (pss_one (ps_ret pe_bl)) pss_nil) (pss_cons (ps_par (i := 12) (j := 13) rfl scLaw.nd rfl rfl (by decide) rfl rfl (pa_cons (pe_call Gp hr2 (by rfl) S.pick.g S.pick.F.kp S.pick.b .nil pass0 (pa_cons (pv 1) (pa_cons (pv 3) pa_nil))) (pa_cons (pe_call Gd hr1 (by rfl) S.draw.g S.draw.F.kp S.draw.b .nil pass0 (pa_cons (pv 1) (pa_cons pe_int pa_nil))) pa_nil)) (by rfl)) (pss_cons (ps_if (pt_cmpR (op_neD hr.units) (pe_call Gc hr14 (by rfl) Dc.c.g Dc.c.F.kp Dc.c.b .nil passL (pa_cons (pe_op op_repS (pv 12) (pv 13)) (pa_cons (pe_op op_repS (pv 12) (pe_op op_sub pe_int (pv 13))) pa_nil))) (pe_lst (pa_cons (pe_op op_repS (pv 12) (pe_callB (call_max2 rfl) (by rfl) S.b_max (by decide +kernel) (pa_cons (pv 13) (pa_cons (pe_op op_sub pe_int (pv 13)) pa_nil)))) pa_nil)) (nomark _)) (pss_one (ps_ret pe_bl)) pss_nil) (pss_one (ps_ret (pe_call Gr hr (by rfl) S.is_refused.g S.is_refused.F.kp S.is_refused.b .nil pass0 (pa_cons (pe_op op_repS (pv 12) (pv 13)) (pa_cons (pe_op op_repS (pv 12) (pe_op op_add (pe_op op_sub pe_int (pv 13)) (pe_call Gd hr1 (by rfl) S.draw.g S.draw.F.kp S.draw.b .nil pass0 (pa_cons (pv 1) (pa_cons pe_int pa_nil))))) pa_nil))))))))))))), ?_⟩
    refine ⟨.ref a, rfl, a, ns, rfl, hS, fun H0 t c s0 ht hc T0 => ?_⟩
    refine ⟨2, rfl, by decide, by decide, for_it walk_range (fun i σ H' => ∃ y2 y3 y4 y5 y6 y7 y8 y9, σ = [some (.ref a), some (.ref t), y2, y3, y4, y5, y6, y7, y8, y9, none, none, none, none, none, none] ∧ (0 < i → ∃ z, y3 = some (.str z) ∧ Alph z) ∧ Tape H' t c (100000 * i)) ⟨_, _, _, _, _, _, _, _, rfl, fun h => absurd h (Nat.lt_irrefl _), T0⟩ (fun _ _ _ _ _ => trivial) ?_ ?_⟩
    · rintro i x0 σ G G' hi ⟨y2, y3, y4, y5, y6, y7, y8, y9, rfl, _, T⟩ ⟨rfl, rfl⟩
      refine ⟨.ref t, rfl, t, c, 100000 * i, rfl, T, by omega, fun H1 z k1 T1 al => ?_⟩
      have z3 := al.2.2.1
      refine ⟨.ref t, rfl, .str z, rfl, t, c, _, z, 4, rfl, T1, by omega, al, by decide, by decide, fun H2 x k2 T2 xo xl => ?_⟩
      have sxx := sx x
      refine ⟨.ref t, rfl, .str z, rfl, .str x, rfl, x, rfl, by omega, 6, _, rfl, rfl, 4, _, rfl, t, c, _, z, _, rfl, T2, by omega, al, ?_, ?_, fun H3 y0 k3 T3 yo yl => ?_⟩
      · split <;> omega
      · split <;> omega
      have yb6 : (tl y0).length + (tl x).length ≤ 6 := by
        split at yl <;> omega
      refine ⟨.ref t, rfl, .str y0, rfl, .str y0, rfl, .str x, rfl, ?_⟩
      unfold tNoPart
      refine ⟨.str x, rfl, x, rfl, by omega, 6, _, rfl, rfl, _, rfl, x, rfl, by omega, .str x, rfl, x, rfl, by omega, ?_⟩
      have xr : tl (⟨x.cps.toList.reverse.toArray⟩ : Str) = (tl x).reverse := rfl
      refine ⟨.str x, rfl, x, rfl, by omega, 6, _, rfl, rfl, _, rfl, _, rfl, ?_, ?_⟩
      · rw [sx, xr, List.length_reverse]
        omega
      refine ⟨by show 4 ≤ sizeLine; decide, fun l1 e1 => ?_⟩
      have s1 := same_upd (o := .lst [V.str y0, .str y0, .str (cutS x none (some (6 - (x.length : Int)))), .str (cutS ⟨x.cps.toList.reverse.toArray⟩ none (some (6 - (x.length : Int))))]) e1
      refine ⟨t, c, _, .ref l1, rfl, T3.same s1, by omega, .inl ⟨l1, _, rfl, SqL.of upd_same, by simp, by show 4 < 2 ^ 30; decide, fun H4 y' k4 T4 hy => ?_⟩⟩
      obtain ⟨y, rfl, yo, yl⟩ : ∃ y : Str, y' = .str y ∧ OverW z y ∧ (tl y).length + (tl x).length ≤ 6 := by
        have ex : (6 - (x.length : Int)) = ((6 - x.length : Nat) : Int) := by omega
        have lx := cut_some x (6 - x.length)
        have lr := cut_some ⟨x.cps.toList.reverse.toArray⟩ (6 - x.length)
        rw [ex] at hy
        simp only [List.mem_cons, List.not_mem_nil, or_false] at hy
        rcases hy with e | e | e | e
        · exact ⟨y0, e, yo, yb6⟩
        · exact ⟨y0, e, yo, yb6⟩
        · exact ⟨_, e, (wo_cut (n := 4) ⟨xo, by omega⟩ _ _).1, by omega⟩
        · exact ⟨_, e, (wo_cut (wo_rev (n := 4) ⟨xo, by omega⟩) _ _).1, by omega⟩
      have sxy := sx y
      clear yb6 k1 k2 k3
      -- by trying all words
      refine ⟨Nat.zero_le _, fun B hB => ?_⟩
      have sB := same_upd (o := .lst []) hB
      refine ⟨.str z, rfl, .str x, rfl, x, rfl, by omega, .str y, rfl, y, rfl, by omega, _, _, rfl, rfl, z, _, rfl, al, by omega, by omega, fun H5 W ws s5 nW gW wov wfew we => ?_⟩
      have em : ((x.length : Int) + (y.length : Int)).toNat = (tl x).length + (tl y).length := by omega
      rw [em] at we
      have wslt : (ws.map tl).Pairwise slt := by
        rw [we]
        exact (allW_slt al.1 _).1
      have wall : ∀ m, (∀ c ∈ m, c ∈ tl z) → m.length ≤ (tl x).length + (tl y).length → ∃ o ∈ ws, tl o = m := fun m h1 h2 => by
        have := allW_has _ m h1 h2
        rw [← we] at this
        obtain ⟨o, ho, e⟩ := List.mem_map.mp this
        exact ⟨o, ho, e⟩
      have w128 : ∀ u ∈ ws, (tl u).length ≤ 20 ∧ ∀ c ∈ tl u, c < 128 := fun u hu => ⟨Nat.le_trans (wov u hu).1 (by decide), fun c hc => by
        have := al.2.2.2 c ((wov u hu).2 c hc)
        omega⟩
      have WB : W ≠ B := fun e => by rw [e] at nW; cases nW.symm.trans (upd_same (H := H4) (a := B) (o := .lst []))
      let good : Str → Bool := fun o => @decide (MinC (tl x) (tl y) (tl o)) (Classical.propDecidable _)
      have good_iff : ∀ o, good o = true ↔ MinC (tl x) (tl y) (tl o) := fun o => by
        exact @decide_eq_true_iff _ (Classical.propDecidable _)
      refine ⟨W, rfl, ⟨_, SqL.of gW⟩, for_it (walk_list (xs := ws.map V.str)) (fun n σ H' => ∃ (y7 : Option V), σ = [some (.ref a), some (.ref t), some (.int (0 + (i : Int))), some (.str z), some (.str x), some (.str y), some (.ref B), y7, y8, y9, none, none, none, none, none, none] ∧
        H' B = some (.lst (((ws.take n).filter good).map V.str)) ∧ H' W = some (.lst (ws.map V.str)) ∧ Same H4 H') ⟨_, rfl, s5 _ _ upd_same, gW, sB.trans s5⟩ (fun _ _ _ _ ⟨_, _, _, h, _⟩ => SqL.of h) ?_ ?_⟩
      · rintro n v σ N00 N0 hn ⟨y7', rfl, gB, gWN, sN⟩ ⟨rfl, hv⟩
        obtain ⟨u, hu, rfl⟩ := at_strs hv
        have um := List.mem_of_getElem? hu
        have ul := (w128 u um).1
        have step : ∀ b : Bool, good u = b → (ws.take (n + 1)).filter good = (ws.take n).filter good ++ if b = true then [u] else [] := fun b hb => by
          rw [List.take_add_one, hu, List.filter_append]
          congr 1
          show List.filter _ [u] = _
          rw [List.filter_cons, hb]
          rfl
        have skip : ¬ MinC (tl x) (tl y) (tl u) → N0 B = some (.lst (((ws.take (n + 1)).filter good).map V.str)) := fun h => by
          rw [step false (by cases e : good u; rfl; exact absurd ((good_iff u).mp e) h), if_neg (by decide), List.append_nil]
          exact gB
        refine ⟨.str x, rfl, .str u, rfl, x, u, rfl, by omega, fun b hb => ⟨b, rfl, ite2 (fun e1 => ?_) (fun e1 => ?_)⟩⟩
        · refine ⟨.str y, rfl, .str u, rfl, y, u, rfl, by omega, fun b2 hb2 => ⟨b2, rfl, ite2 (fun e2 => ?_) (fun e2 => ?_)⟩⟩
          · have cs : CSup (tl x) (tl y) (tl u) := ⟨hb.mp e1, hb2.mp e2⟩
            have fl : ((ws.take n).filter good).length ≤ 40000 := Nat.le_trans (List.length_filter_le _ _) (by rw [List.length_take]; omega)
            have bm : ∀ o, o ∈ (ws.take n).filter good → o ∈ ws ∧ MinC (tl x) (tl y) (tl o) := fun o ho => ⟨List.mem_of_mem_take (List.mem_filter.mp ho).1, (good_iff o).mp (List.mem_filter.mp ho).2⟩
            have bt : ∀ o, o ∈ ws.take n → MinC (tl x) (tl y) (tl o) → o ∈ (ws.take n).filter good := fun o h1 h2 => List.mem_filter.mpr ⟨h1, (good_iff o).mpr h2⟩
            have nin : u ∉ ws.take n := slt_take wslt hu
            have bn : ∀ o, o ∈ (ws.take n).filter good → o ∈ ws.take n := fun o ho => (List.mem_filter.mp ho).1
            generalize (ws.take n).filter good = bs at gB fl bm bt bn step skip
            refine ⟨.ref B, rfl, B, rfl, ⟨_, SqL.of gB⟩, fun L hL => ?_⟩
            have sL := same_upd (o := .lst []) hL
            let sub : Str → Bool := fun o => (tl o).isSublist (tl u)
            refine lc_it (walk_list (K := K) (a := B) (xs := bs.map V.str)) (fun j M => M L = some (.lst (((bs.take j).filter sub).map V.str)) ∧ Same N0 M) ⟨upd_same, sL⟩ (fun _ _ _ ⟨_, s⟩ => SqL.of (s _ _ gB)) ?_ ?_
            · rintro j o0 M M' hj ⟨gL, sM⟩ ⟨rfl, hx⟩
              obtain ⟨o, ho, rfl⟩ := at_strs hx
              have om := List.mem_of_getElem? ho
              have ol := (w128 o (bm o om).1).1
              have tk : (bs.take (j + 1)).filter sub = (bs.take j).filter sub ++ if sub o = true then [o] else [] := by
                rw [List.take_add_one, ho, List.filter_append]
                congr 1
                show List.filter _ [o] = _
                rw [List.filter_cons]
                rfl
              have fl2 : ((bs.take j).filter sub).length ≤ 40000 := Nat.le_trans (List.length_filter_le _ _) (by rw [List.length_take]; omega)
              refine ⟨rfl, .str o, rfl, .str u, rfl, o, u, rfl, by omega, fun b hb => ⟨b, rfl, ite2 (fun e2 => ?_) (fun e2 => ?_)⟩⟩
              · have hb' : sub o = true := List.isSublist_iff_sublist.mpr (hb.mp e2)
                refine ⟨_, rfl, _, gL, ?_, ?_, fun b o e => (upd_ne (ne_of_none e hL)).trans (sM _ _ e)⟩
                · rw [List.length_map, sizeLine_eq]
                  omega
                · rw [upd_same, tk, hb', if_pos rfl, List.map_append]
                  rfl
              · have hb' : ¬ sub o = true := fun h => e2 (hb.mpr (List.isSublist_iff_sublist.mp h))
                refine ⟨?_, sM⟩
                rw [tk, if_neg hb', List.append_nil]
                exact gL
            rintro M ⟨gL, sM⟩
            rw [List.length_map, List.take_length] at gL
            refine ⟨by show 0 ≤ sizeLine; decide, fun e1 he1 => ?_⟩
            have sE := same_upd (o := .lst []) he1
            have hwf : ∀ x ∈ bs.filter sub, (tl x).length ≤ 20 ∧ ∀ c ∈ tl x, c < 128 := fun x hx => w128 x (bm x (List.mem_filter.mp hx).1).1
            have sME := sM.trans sE
            refine ⟨strD (bs.filter sub), .list [], str_dp (SqL.of (sE _ _ gL)), .lst (SqL.of upd_same) .nil, str_shaped hwf, by decide +kernel, _, rfl, ?_⟩
            rw [str_eqv_nil]
            refine ite2 (fun e => ?_) (fun e => ?_)
            · have Mu : MinC (tl x) (tl y) (tl u) := by
                obtain ⟨m, Mm, sm⟩ := minc_under _ _ rfl cs
                rcases Nat.lt_or_ge m.length (tl u).length with h | h
                · obtain ⟨o, ho, rfl⟩ := wall m (fun c hc => (wov u um).2 c (sm.subset hc)) (by have := (mg_sup _ _ _ rfl _ Mm.mg).2.1; omega)
                  have ob := bt o (slt_before wslt hu ho (.inl h)) Mm
                  have : o ∈ bs.filter sub := List.mem_filter.mpr ⟨ob, List.isSublist_iff_sublist.mpr sm⟩
                  rw [List.isEmpty_iff.mp e] at this
                  cases this
                · rw [← sm.eq_of_length_le h]
                  exact Mm
              refine ⟨.ref B, rfl, .inl ⟨rfl, _, SqL.of (sME _ _ gB)⟩, .str u, rfl, B, _, _, rfl, rfl, sME _ _ gB, ?_, _, rfl, ?_, (upd_ne WB).trans (sME _ _ gWN), fun b o e => (upd_ne (ne_of_none e hB)).trans ((sN.trans sME) _ _ e)⟩
              · rw [List.length_map, sizeLine_eq]
                omega
              · rw [upd_same, step true ((good_iff u).mpr Mu), if_pos rfl, List.map_append]
                rfl
            · have Mu : ¬ MinC (tl x) (tl y) (tl u) := fun Mu => e <| List.isEmpty_iff.mpr <| List.eq_nil_iff_forall_not_mem.mpr fun o ho => by
                obtain ⟨ob, os⟩ := List.mem_filter.mp ho
                have os := List.isSublist_iff_sublist.mp os
                rcases Nat.lt_or_ge (tl o).length (tl u).length with h | h
                · exact Mu.proper os h (bm o ob).2.1
                · have := tl_inj (os.eq_of_length_le h)
                  subst this
                  exact nin (bn o ob)
              exact ⟨_, rfl, sME _ _ (skip Mu), sME _ _ gWN, sN.trans sME⟩
          · exact ⟨_, rfl, skip fun M => e2 (hb2.mpr M.1.2), gWN, sN⟩
        · exact ⟨_, rfl, skip fun M => e1 (hb.mpr M.1.1), gWN, sN⟩
      rintro σ N0 ⟨y7', rfl, gB, gWN, sN⟩
      rw [List.length_map, List.take_length] at gB
      have dlt : (((ws.filter good).map tl)).Pairwise slt := wslt.sublist (List.Sublist.map _ List.filter_sublist)
      have dmem : ∀ m, m ∈ (ws.filter good).map tl ↔ MinC (tl x) (tl y) m := fun m => by
        constructor
        · intro h
          obtain ⟨o, ho, rfl⟩ := List.mem_map.mp h
          exact (good_iff o).mp (List.mem_filter.mp ho).2
        · intro M
          obtain ⟨_, h2, h3⟩ := mg_sup _ _ _ rfl _ M.mg
          obtain ⟨o, ho, rfl⟩ := wall m (fun c hc => by
            rcases h3 c hc with q | q
            · exact xo c q
            · exact yo c q) (by omega)
          exact List.mem_map.mpr ⟨o, List.mem_filter.mpr ⟨ho, (good_iff o).mpr M⟩, rfl⟩
      have dw : ∀ u ∈ ws.filter good, (tl u).length ≤ 20 ∧ ∀ c ∈ tl u, c < 128 := fun u hu => w128 u (List.mem_filter.mp hu).1
      generalize ws.filter good = ds at gB dlt dmem dw
      have TN := T4.same sN
      refine ⟨2, rfl, by decide, by decide, for_it walk_range (fun n σ H' => ∃ y8 y9, σ = [some (.ref a), some (.ref t), some (.int (0 + (i : Int))), some (.str z), some (.str x), some (.str y), some (.ref B), y7', y8, y9, none, none, none, none, none, none] ∧ Same N0 H') ⟨_, _, rfl, Same.refl N0⟩ (fun _ _ _ _ _ => trivial) ?_ ?_⟩
      · rintro n v σ M M' hn ⟨y8, y9, rfl, sM⟩ ⟨rfl, rfl⟩
        refine ⟨.str x, rfl, .str y, rfl, x, y, rfl, by omega, by omega, fun _ M1 q fs s1 nq gq Mc => ?_, fun h => by omega⟩
        have ef : fs = ds := Mc.eq dlt dmem
        have few := Mc.few
        subst ef
        obtain ⟨sh1, sh2, sh3, sh4⟩ := str_shownB dw few
        have s02 := sM.trans s1
        refine ⟨.ref q, rfl, q, strD _, rfl, str_dp (SqL.of gq), sh1, sh2, sh3, sh4, .ref B, rfl, B, strD _, rfl, str_dp (SqL.of (s02 _ _ gB)), sh1, sh2, sh3, sh4, rfl, _, rfl, ?_⟩
        rw [show ∀ x : Str, (!decide (V.str x = V.str x)) = false from fun x => by simp]
        refine iteF ⟨.str y, rfl, .str x, rfl, y, x, rfl, by omega, by omega, fun _ M2 q2 fs2 s2 nq2 gq2 Mc2 => ?_, fun h => by omega⟩
        have ef : fs2 = fs := Mc2.eq dlt fun m => (dmem m).trans minc_comm
        subst ef
        have gqq := s2 _ _ gq
        refine ⟨.ref B, rfl, strD fs2, strD fs2, str_dp (SqL.of gq2), str_dp (SqL.of (s2 _ _ (s02 _ _ gB))), str_shaped dw, str_shaped dw, _, rfl, ?_⟩
        rw [str_eqv dw]
        refine iteF ?_
        refine ⟨.ref q, rfl, .inl ⟨rfl, _, SqL.of gqq⟩, q, _, _, rfl, rfl, gqq, ?_, _, _, rfl, fun b o e => (upd_ne (ne_of_none (sM _ _ e) nq)).trans ((s02.trans s2) _ _ e)⟩
        rw [List.length_map, sizeLine_eq]
        omega
      · rintro σ M ⟨y8, y9, rfl, sM⟩
        exact ⟨_, _, _, _, _, _, _, _, rfl, fun _ => ⟨z, rfl, al⟩, (TN.same sM).mono (by omega)⟩
    · rintro σ G ⟨y2, y3, y4, y5, y6, y7, y8, y9, rfl, hz, T⟩
      obtain ⟨z, rfl, al⟩ := hz (by decide)
      have z1 := al.2.1
      have z3 := al.2.2.1
      have sxz := sx z
      have lo : ∀ u : Str, OverW z u → ∀ c ∈ tl u, c < 128 := fun u h c hc => by
        have := al.2.2.2 c (h c hc)
        omega
      refine ⟨.ref t, rfl, .str z, rfl, t, c, _, z, 4, rfl, T, by omega, al, by decide, by decide, fun H1 x k1 T1 xo xl => ?_⟩
      refine ⟨.ref t, rfl, .str z, rfl, t, c, _, z, 4, rfl, T1, by omega, al, by decide, by decide, fun H2 y k2 T2 yo yl => ?_⟩
      refine ⟨_, _, rfl, ?_⟩
      have sxx := sx x
      have sxy := sx y
      -- two long ones
      refine ⟨⟨_, rfl⟩, 6, rfl, by decide, by decide, fun D hD => ?_⟩
      have D1 := T2.ne1 hD
      have D2 := T2.ne2 hD
      refine lc_range (lo := 0) (n := (6 : Int).toNat) (fun i H' => ∃ ds : List Nat, ds.length = i ∧ (∀ c ∈ ds, c ∈ tl z) ∧ H' D = some (.lst ((ds.map one).map V.str)) ∧ Tape H' t c (300000 + 1000 * i)) ?_ ?_ ?_
      · exact ⟨[], rfl, fun c hc => (nomatch hc), upd_same, (T2.upd D1 D2).mono (by decide)⟩
      · rintro i G hi ⟨ds, dl, ov, gD, TG⟩
        have hi6 : i < 6 := hi
        refine ⟨rfl, yes ?_⟩
        refine ⟨.ref t, rfl, .str z, rfl, t, c, _, .str z, rfl, TG, by omega, .inr ⟨z, rfl, by omega, by omega, fun H4 d k4 T4 hd => ?_⟩⟩
        have gD4 := k4.at gD (fun _ z => by cases z)
        refine ⟨_, gD4, ?_, ds ++ [d], by rw [List.length_append, dl]; rfl, fun c hc => ?_, ?_, (T4.upd D1 D2).mono (by omega)⟩
        · rw [List.length_map, List.length_map, dl, sizeLine_eq]
          omega
        · rcases List.mem_append.mp hc with q | q
          · exact ov c q
          · rw [List.mem_singleton.mp q]
            exact hd
        · rw [upd_same, List.map_append, List.map_append]
          rfl
      rintro G1 ⟨ds, dl, ov, gD, TG⟩
      have dl : ds.length = 6 := dl
      have ej : tl (Txt.join "" (ds.map one)) = ds := by rw [tl_cat, flat_ones]
      refine ⟨"", D, ds.map one, rfl, rfl, .inl (SqL.of gD), ?_, ?_⟩
      · rw [sum_ones _ fun y hy => ?_, List.length_map]
        · show ds.length + ds.length * 0 ≤ 16777216
          omega
        · obtain ⟨d, _, rfl⟩ := List.mem_map.mp hy
          exact ⟨d, rfl⟩
      generalize Txt.join "" (ds.map one) = lg at ej
      have lo6 : WO z 6 lg := ⟨fun c hc => ov c (by rw [ej] at hc; exact hc), by rw [ej]; omega⟩
      have l6 := lo6.2
      have sxl := sx lg
      have cl : ∀ lo hi, (tl (cutS lg lo hi)).length ≤ 6 := fun lo hi => (wo_cut lo6 lo hi).2
      have sc : ∀ lo hi, (cutS lg lo hi).length ≤ 6 := fun lo hi => by rw [sx]; exact cl lo hi
      have b16 : ∀ a b : Nat, a ≤ 6 → b ≤ 6 → a + b ≤ sizeLine := fun a b _ _ => by omega
      refine ⟨.ref t, rfl, .str lg, rfl, lg, rfl, by omega, .str lg, rfl, _, rfl, ?_⟩
      unfold tNoPart
      refine ⟨lg, rfl, by omega, .str lg, rfl, _, rfl, lg, rfl, by omega, _, _, rfl, rfl, b16 _ _ (sc _ _) (sc _ _), ?_⟩
      refine ⟨.str lg, rfl, _, rfl, lg, rfl, by omega, _, rfl, Nat.le_trans (sc _ _) (by omega), ?_⟩
      refine ⟨.str lg, rfl, _, rfl, lg, rfl, by omega, _, _, rfl, rfl, b16 _ _ ?_ (sc _ _), ?_⟩
      · rw [sx]
        exact (wo_rev (wo_cut lo6 _ _)).2
      refine ⟨by show 3 ≤ sizeLine; decide, fun l1 e1 => ?_⟩
      refine ⟨t, c, _, .ref l1, rfl, TG.same (same_upd e1), by omega, .inl ⟨l1, _, rfl, SqL.of upd_same, by simp, by show 3 < 2 ^ 30; decide, fun G3 y' k3 T3 hy => ?_⟩⟩
      obtain ⟨pm, rfl, po⟩ : ∃ pm : Str, y' = .str pm ∧ WO z 12 pm := by
        simp only [List.mem_cons, List.not_mem_nil, or_false] at hy
        rcases hy with e | e | e
        · exact ⟨_, e, (wo_rev lo6).1, Nat.le_trans (wo_rev lo6).2 (by decide)⟩
        · exact ⟨_, e, wo_app (wo_cut lo6 _ _) (wo_cut lo6 _ _)⟩
        · exact ⟨_, e, wo_app (wo_rev (wo_cut lo6 _ _)) (wo_cut lo6 _ _)⟩
      have sxp := sx pm
      have lp := po.2
      refine ⟨.ref t, rfl, t, c, 2, _, rfl, T3, by omega, by decide, by decide, fun G4 r k4 T4 r0 r1 => ?_⟩
      refine ⟨6, _, rfl, rfl, _, rfl, pm, rfl, by omega, ?_⟩
      have lm : WO z 6 (cutS pm none (some (6 - r))) := by
        refine ⟨(wo_cut po _ _).1, ?_⟩
        rw [show (6 - r) = ((6 - r.toNat : Nat) : Int) by omega]
        exact Nat.le_trans (cut_some _ _) (by omega)
      generalize cutS pm none (some (6 - r)) = mo at lm
      have lm6 := lm.2
      -- both right
      refine ⟨.ref t, rfl, .str x, rfl, .str y, rfl, t, c, _, x, y, rfl, T4, by omega, by omega, lo x xo, lo y yo, fun G5 k5 T5 => ⟨true, rfl, iteF ?_⟩⟩
      refine ⟨.ref t, rfl, .str lg, rfl, .str mo, rfl, t, c, _, lg, mo, rfl, T5, by omega, by omega, lo lg lo6.1, lo mo lm.1, fun G6 k6 T6 => ⟨true, rfl, iteF ?_⟩⟩
      -- one letter
      refine ⟨.ref t, rfl, .str z, rfl, t, c, _, .str z, rfl, T6, by omega, .inr ⟨z, rfl, by omega, by omega, fun G7 d k7 T7 hd => ?_⟩⟩
      refine ⟨.ref t, rfl, t, c, 13, _, rfl, T7, by omega, by decide, by decide, fun G8 n k8 T8 n0 n1 => ⟨_, _, rfl, ?_⟩⟩
      have dd : ∀ (m : Int) (u : Str), tl u = (List.replicate m.toNat (tl ⟨#[d]⟩)).flatten → tl u = List.replicate m.toNat d := fun m u h => by
        rw [h]
        generalize m.toNat = j
        induction j with
        | zero => rfl
        | succ j ih => rw [List.replicate_succ, List.flatten_cons, ih]; rfl
      refine ⟨.str ⟨#[d]⟩, rfl, .int n, rfl, _, n, rfl, rfl, n0, by omega, by show 1 ≤ 1000; decide, fun xx hx => ?_⟩
      refine ⟨.str ⟨#[d]⟩, rfl, .int n, rfl, 12, n, rfl, rfl, _, _, rfl, rfl, by omega, by omega, by show 1 ≤ 1000; decide, fun yy hy => ?_⟩
      have hx := dd _ _ hx
      have hy := dd _ _ hy
      have lx : (tl xx).length = n.toNat := by rw [hx, List.length_replicate]
      have ly : (tl yy).length = (12 - n).toNat := by rw [hy, List.length_replicate]
      refine ⟨xx, yy, rfl, by omega, by omega, fun _ G9 q ws s9 nq gq Mc => ?_, fun h => by omega⟩
      refine ⟨.str ⟨#[d]⟩, rfl, .int n, rfl, .int n, rfl, 12, n, rfl, rfl, _, _, rfl, ?_⟩
      refine ⟨_, _, rfl, rfl, ?_, ?_, by show 1 ≤ 1000; decide, fun mm hm => ⟨by show 1 ≤ sizeLine; decide, fun L hL => ?_⟩⟩
      · split <;> omega
      · split <;> omega
      have hm := dd _ _ hm
      have em : tl mm = List.replicate (max n.toNat (12 - n).toNat) d := by
        rw [hm]
        congr 1
        split <;> omega
      have ew : ws = [mm] := Mc.eq (List.pairwise_singleton _ _) fun m => by
        rw [hx, hy, minc_rep, List.map_cons, List.map_nil, List.mem_singleton, em]
      subst ew
      have sL := same_upd (o := .lst [V.str mm]) hL
      have wm : ∀ u ∈ [mm], (tl u).length ≤ 20 ∧ ∀ c ∈ tl u, c < 128 := fun u hu => by
        rw [List.mem_singleton.mp hu, em]
        refine ⟨by rw [List.length_replicate]; omega, fun c hc => ?_⟩
        rw [List.eq_of_mem_replicate hc]
        have := al.2.2.2 d hd
        omega
      refine ⟨strD [mm], strD [mm], str_dp (SqL.of (sL _ _ gq)), str_dp (SqL.of upd_same), str_shaped wm, str_shaped wm, _, rfl, ?_⟩
      rw [str_eqv wm]
      refine iteF ?_
      have T9 := (T8.same s9).same sL
      refine ⟨.str ⟨#[d]⟩, rfl, .int n, rfl, _, n, rfl, rfl, n0, by omega, by show 1 ≤ 1000; decide, fun x2 hx2 => ?_⟩
      refine ⟨.str ⟨#[d]⟩, rfl, .int n, rfl, 13, n, rfl, rfl, .ref t, rfl, t, c, 6, _, rfl, T9, by omega, by decide, by decide, fun G10 r k10 T10 r0 r1 => ?_⟩
      refine ⟨_, _, rfl, rfl, _, _, rfl, rfl, by omega, by omega, by show 1 ≤ 1000; decide, fun y2' hy2 => ?_⟩
      have hx2 := dd _ _ hx2
      have hy2 := dd _ _ hy2
      have lx2 : (tl x2).length = n.toNat := by rw [hx2, List.length_replicate]
      have ly2 : (tl y2').length = (13 - n + r).toNat := by rw [hy2, List.length_replicate]
      exact ⟨x2, y2', rfl, by omega, by omega, by omega, fun H' _ => k _⟩
end
end DW
set_option maxHeartbeats 0
namespace DW
open PySem PySem.Spec PyProof.Rows L2
def mkD (x : Str) (st : Stmt) : He.DefD := ⟨(x, none), x, x, defArgs st, defBody st, defScope st, [], []⟩
def fn : List He.DefD := [mkD "law" sLaw, mkD "first_positions" sFirstPositions, mkD "is_subword" sIsSubword, mkD "has_proper_subword" sHasProperSubword, mkD "in_shortlex_order" sInShortlexOrder, mkD "minimal_words" sMinimalWords, mkD "merged_words" sMergedWords, mkD "common_superwords" sCommonSuperwords, mkD "_law_begin" sBegin, mkD "_law_draw" sDraw, mkD "_law_pick" sPick, mkD "_law_alphabet" sAlpha, mkD "_law_word" sWord, mkD "_law_is_subword" sLIsSubword, mkD "_law_words" sLWords, mkD "_law_is_refused" sLIsRefused, mkD "_law_merged" sLMerged, mkD "_law_long_right" sLLongRight]
def fa : List He.Fa := [.glo "law", .glo "first_positions", .glo "is_subword", .glo "has_proper_subword", .glo "in_shortlex_order", .glo "minimal_words", .glo "merged_words", .glo "common_superwords", .glo "_law_begin", .glo "_law_draw", .glo "_law_pick", .glo "_law_alphabet", .glo "_law_word", .glo "_law_is_subword", .glo "_law_words", .glo "_law_is_refused", .glo "_law_merged", .glo "_law_long_right", .free "tuple", .free "len", .free "sorted", .free "set", .free "range", .free "isinstance", .free "min", .free "repr", .free "max", .int "SUPERWORD_LIMIT" 12, .free "super"]
abbrev R : PySem.W.OpenRow := PySem.W.OpenLaw.row PySem.Challenge.rw_downwords_k04_common_superwords
def xs : EX.Xs := { ini := [⟨"TooLarge", "TooLarge.__init__", "limit", defArgs (clsS 2 0), defBody (clsS 2 0), defScope (clsS 2 0)⟩, ⟨"TooMany", "TooMany.__init__", "limit", defArgs (clsS 3 0), defBody (clsS 3 0), defScope (clsS 3 0)⟩], ex := ["DownwordsError"], kit := [("TooLarge", "DownwordsError", true), ("TooLarge", "TooMany", false)], exm := [("TooLarge", "TooLarge", true)], own := [], kty := [] }
abbrev hk : PySem.W.Hook := EX.hookX R.prog 4 fa fn xs
def ob (s : PySem.W.SharedT) : EX.AlX := EX.obsXG R.prog 4 fa fn xs (HandSHeadRun.getT s)
theorem ob_eq (s : PySem.W.SharedT) : ob s = hk.obs s.abs := EX.obsXG_eq (HandSHeadRun.getT_eq s)
abbrev names : List Str := ["__name__", "DownwordsError", "TooLarge", "TooMany", "SUPERWORD_LIMIT", "first_positions", "is_subword", "has_proper_subword", "in_shortlex_order", "minimal_words", "merged_words", "common_superwords", "_law_begin", "_law_draw", "_law_pick", "_law_alphabet", "_law_word", "_law_is_subword", "_law_words", "_law_is_refused", "_law_merged", "_law_long_right"]
theorem run (w : World) : HandSHeadRun.RunEq R (PySem.W.view R.prog [24]) hk ob 4000 names w := by
  intro os
  kernel_rfl
theorem df {K : PySem.W.Frag} {h : Heap} {mg : Str → Option Value} {x : Str} {st : Stmt} {ps : List Str} (X : K.In h) (G : h.Ns mainGlobals mg) (hf : ∃ fd, FunD K x x (defArgs st) (defBody st) (defScope st) [] [] (He.fAd K (x, none)) fd) (hg : (He.Fa.glo x).ok K = true)
    (b : ∀ (kV doc pm : Value) (an : Option Addr) (cdv ct : Value) (us : List Value), us.length = ps.length → bindArgs (PySem.W.fnOf x x (defArgs st) (defBody st) (defScope st) .none kV doc pm an cdv ct) ⟨us, []⟩ = pure (ps.zip us)) :
    ∃ D : Df K mg x st ps, D.f = He.fAd K (x, none) := by
  obtain ⟨fd, F⟩ := hf
  exact ⟨⟨He.fAd K (x, none), fd, F, He.glo_ok X G hg, F.bindsN b⟩, rfl⟩
theorem facts {w : World} {K : PySem.W.Frag} {h : Heap} {mg : Str → Option Value} {f : Addr} (X : K.In h) (G : h.Ns mainGlobals mg) (hfa : mg ("law" : Str) = some (.ref f)) (cx : EX.SaysX R.prog fa fn xs K) :
    ∃ fd : FuncData, (∀ (s : Shared) (v : Value), BindsTo s fd ⟨[v], []⟩ [("_law_script", v)]) ∧ ∀ base : Heap, K.In base → base.Ns mainGlobals mg → GA.FnAt R.prog w K mg base f fd ["_law_script"] (spLaw K) := by
  have c := cx.d
  have e := hfa.symm.trans (He.glo_ok X G (c.fact 0 (f := .glo "law") rfl))
  cases e
  obtain ⟨D0, e0⟩ := df (st := sLaw) (ps := ["_law_script"]) X G (c.def_ 0 (d := mkD "law" sLaw) rfl) (c.fact 0 (f := .glo "law") rfl) fun _ _ _ _ _ _ us hl => match us, hl with | [_], _ => rfl
  obtain ⟨D1, e1⟩ := df (st := sFirstPositions) (ps := ["word", "other"]) X G (c.def_ 1 (d := mkD "first_positions" sFirstPositions) rfl) (c.fact 1 (f := .glo "first_positions") rfl) fun _ _ _ _ _ _ us hl => match us, hl with | [_, _], _ => rfl
  obtain ⟨D2, e2⟩ := df (st := sIsSubword) (ps := ["word", "other"]) X G (c.def_ 2 (d := mkD "is_subword" sIsSubword) rfl) (c.fact 2 (f := .glo "is_subword") rfl) fun _ _ _ _ _ _ us hl => match us, hl with | [_, _], _ => rfl
  obtain ⟨D3, e3⟩ := df (st := sHasProperSubword) (ps := ["word", "words"]) X G (c.def_ 3 (d := mkD "has_proper_subword" sHasProperSubword) rfl) (c.fact 3 (f := .glo "has_proper_subword") rfl) fun _ _ _ _ _ _ us hl => match us, hl with | [_, _], _ => rfl
  obtain ⟨D4, e4⟩ := df (st := sInShortlexOrder) (ps := ["words"]) X G (c.def_ 4 (d := mkD "in_shortlex_order" sInShortlexOrder) rfl) (c.fact 4 (f := .glo "in_shortlex_order") rfl) fun _ _ _ _ _ _ us hl => match us, hl with | [_], _ => rfl
  obtain ⟨D5, e5⟩ := df (st := sMinimalWords) (ps := ["words"]) X G (c.def_ 5 (d := mkD "minimal_words" sMinimalWords) rfl) (c.fact 5 (f := .glo "minimal_words") rfl) fun _ _ _ _ _ _ us hl => match us, hl with | [_], _ => rfl
  obtain ⟨D6, e6⟩ := df (st := sMergedWords) (ps := ["word", "other"]) X G (c.def_ 6 (d := mkD "merged_words" sMergedWords) rfl) (c.fact 6 (f := .glo "merged_words") rfl) fun _ _ _ _ _ _ us hl => match us, hl with | [_, _], _ => rfl
  obtain ⟨D7, e7⟩ := df (st := sCommonSuperwords) (ps := ["word", "other"]) X G (c.def_ 7 (d := mkD "common_superwords" sCommonSuperwords) rfl) (c.fact 7 (f := .glo "common_superwords") rfl) fun _ _ _ _ _ _ us hl => match us, hl with | [_, _], _ => rfl
  obtain ⟨D8, e8⟩ := df (st := sBegin) (ps := ["_law_script"]) X G (c.def_ 8 (d := mkD "_law_begin" sBegin) rfl) (c.fact 8 (f := .glo "_law_begin") rfl) fun _ _ _ _ _ _ us hl => match us, hl with | [_], _ => rfl
  obtain ⟨D9, e9⟩ := df (st := sDraw) (ps := ["_law_tape", "_law_many"]) X G (c.def_ 9 (d := mkD "_law_draw" sDraw) rfl) (c.fact 9 (f := .glo "_law_draw") rfl) fun _ _ _ _ _ _ us hl => match us, hl with | [_, _], _ => rfl
  obtain ⟨D10, e10⟩ := df (st := sPick) (ps := ["_law_tape", "_law_items"]) X G (c.def_ 10 (d := mkD "_law_pick" sPick) rfl) (c.fact 10 (f := .glo "_law_pick") rfl) fun _ _ _ _ _ _ us hl => match us, hl with | [_, _], _ => rfl
  obtain ⟨D11, e11⟩ := df (st := sAlpha) (ps := ["_law_tape"]) X G (c.def_ 11 (d := mkD "_law_alphabet" sAlpha) rfl) (c.fact 11 (f := .glo "_law_alphabet") rfl) fun _ _ _ _ _ _ us hl => match us, hl with | [_], _ => rfl
  obtain ⟨D12, e12⟩ := df (st := sWord) (ps := ["_law_tape", "_law_alphabet_here", "_law_longest"]) X G (c.def_ 12 (d := mkD "_law_word" sWord) rfl) (c.fact 12 (f := .glo "_law_word") rfl) fun _ _ _ _ _ _ us hl => match us, hl with | [_, _, _], _ => rfl
  obtain ⟨D13, e13⟩ := df (st := sLIsSubword) (ps := ["_law_word_here", "_law_other"]) X G (c.def_ 13 (d := mkD "_law_is_subword" sLIsSubword) rfl) (c.fact 13 (f := .glo "_law_is_subword") rfl) fun _ _ _ _ _ _ us hl => match us, hl with | [_, _], _ => rfl
  obtain ⟨D14, e14⟩ := df (st := sLWords) (ps := ["_law_alphabet_here", "_law_longest"]) X G (c.def_ 14 (d := mkD "_law_words" sLWords) rfl) (c.fact 14 (f := .glo "_law_words") rfl) fun _ _ _ _ _ _ us hl => match us, hl with | [_, _], _ => rfl
  obtain ⟨D15, e15⟩ := df (st := sLIsRefused) (ps := ["_law_word_here", "_law_other"]) X G (c.def_ 15 (d := mkD "_law_is_refused" sLIsRefused) rfl) (c.fact 15 (f := .glo "_law_is_refused") rfl) fun _ _ _ _ _ _ us hl => match us, hl with | [_, _], _ => rfl
  obtain ⟨D16, e16⟩ := df (st := sLMerged) (ps := ["_law_tape", "_law_word_here", "_law_other"]) X G (c.def_ 16 (d := mkD "_law_merged" sLMerged) rfl) (c.fact 16 (f := .glo "_law_merged") rfl) fun _ _ _ _ _ _ us hl => match us, hl with | [_, _, _], _ => rfl
  obtain ⟨D17, e17⟩ := df (st := sLLongRight) (ps := ["_law_tape", "_law_word_here", "_law_other"]) X G (c.def_ 17 (d := mkD "_law_long_right" sLLongRight) rfl) (c.fact 17 (f := .glo "_law_long_right") rfl) fun _ _ _ _ _ _ us hl => match us, hl with | [_, _, _], _ => rfl
  obtain ⟨X0, qx0⟩ := cx.ex X G 0 (y := "DownwordsError") rfl
  have msup : mg "super" = none := He.free_ok X G (c.fact 28 (f := .free "super") rfl)
  obtain ⟨Y0, qy0⟩ := EX.mkE (ok := EX.MsgOk) X G (cx.ini 0).2 (cx.ini 0).1 (by decide +kernel) (fun F doc pm ctv us h1 h2 h3 h4 h5 hl => by
      obtain ⟨n1, n2, n3, n4, n5, n6, n7⟩ := F
      dsimp only at h1 h2 h3 h4 h5
      subst h1 h2 h3 h4 h5
      match us, hl with
      | [_, _], _ => rfl) (fun F cc oc doc pm ctv od osl w base h1 h2 h3 Sp lk no => by
      obtain ⟨n1, n2, n3, n4, n5, n6, n7⟩ := F
      dsimp only at h1 h2 h3
      subst h1 h2 h3
      exact EX.init_f Sp lk msup (NdefX.nscope_by (show NdefX.nscB _ _ _ (defScope (clsS 2 0)) = true by decide +kernel)) no rfl (by decide +kernel) rfl rfl rfl (by decide) (by decide) (fun L => rfl))
  obtain ⟨Y1, qy1⟩ := EX.mkE (ok := EX.MsgOk) X G (cx.ini 1).2 (cx.ini 1).1 (by decide +kernel) (fun F doc pm ctv us h1 h2 h3 h4 h5 hl => by
      obtain ⟨n1, n2, n3, n4, n5, n6, n7⟩ := F
      dsimp only at h1 h2 h3 h4 h5
      subst h1 h2 h3 h4 h5
      match us, hl with
      | [_, _], _ => rfl) (fun F cc oc doc pm ctv od osl w base h1 h2 h3 Sp lk no => by
      obtain ⟨n1, n2, n3, n4, n5, n6, n7⟩ := F
      dsimp only at h1 h2 h3
      subst h1 h2 h3
      exact EX.init_f Sp lk msup (NdefX.nscope_by (show NdefX.nscB _ _ _ (defScope (clsS 3 0)) = true by decide +kernel)) no rfl (by decide +kernel) rfl rfl rfl (by decide) (by decide) (fun L => rfl))
  have kk0 : PySem.W.kitOne K (.ref Y0.C) (.ref X0.C) = some true := by rw [qy0, qx0]; exact cx.kit 0
  have kk1 : PySem.W.kitOne K (.ref Y0.C) (.ref Y1.C) = some false := by rw [qy0, qy1]; exact cx.kit 1
  have km0 : PySem.W.exmOne K (.ref Y0.C) (.ref Y0.C) = some true := by rw [qy0]; exact cx.exm 0
  have b := FunD.bindsA (ps := ["_law_script"]) D0.F fun _ _ _ _ _ _ us hl => match us, hl with | [_], _ => rfl
  refine ⟨D0.fd, fun s v => b s [v] rfl, fun base _ _ => ?_⟩
  have q := ok_law (P := R.prog) (w := w) (base := base) D0 ⟨D1, D2, D3, D4, D5, D6, D7, D8, D9, D10, D11, D12, D13, D14, D15, D16, D17, ⟨He.free_ok X G (c.fact 19 (f := .free "len") rfl), He.free_ok X G (c.fact 22 (f := .free "range") rfl), He.free_ok X G (c.fact 20 (f := .free "sorted") rfl), He.free_ok X G (c.fact 21 (f := .free "set") rfl)⟩, He.free_ok X G (c.fact 18 (f := .free "tuple") rfl), He.free_ok X G (c.fact 23 (f := .free "isinstance") rfl), He.free_ok X G (c.fact 24 (f := .free "min") rfl), He.free_ok X G (c.fact 25 (f := .free "repr") rfl), He.free_ok X G (c.fact 26 (f := .free "max") rfl), He.int_ok X G (c.fact 27 (f := .int "SUPERWORD_LIMIT" 12) rfl), X0, Y0, Y1, kk0, kk1, km0⟩
  rw [e0] at q
  exact q
end DW
open PySem PySem.W PySem.Calls PyProof.Rows
theorem PySem.Challenge.cw_downwords_k04_common_superwords_holds : PySem.Challenge.rw_downwords_k04_common_superwords.Holds := by
  w_on; o_law
  refine HandSHeadRun.head_any (r := OpenLaw.row PySem.Challenge.rw_downwords_k04_common_superwords) (q := view (OpenLaw.row PySem.Challenge.rw_downwords_k04_common_superwords).prog [24]) (H := DW.hk) (ob := DW.ob) (M := 4000) (loose := DW.names) (d := HandSHeadRun.topDef (OpenLaw.row PySem.Challenge.rw_downwords_k04_common_superwords).prog 24) (kwd := []) DW.ob_eq
    (by kernel_rfl) (fun s => by kernel_rfl) DW.run (by kernel_rfl) (by kernel_rfl) (by kernel_rfl) (by rfl) (by first | assumption | decide +kernel) (by decide +kernel) ⟨rfl, rfl, rfl, rfl, rfl, by decide +kernel⟩ ?hw ?hc
  case hw => w_witness2
  case hc =>
    refine GA.walkAt (l := PySem.Challenge.rw_downwords_k04_common_superwords) (n := 63) (x := "_law_script") rfl (by decide) (by kernel_rfl) ?F
    intro w mg fa h Y G hmg0
    obtain ⟨K, KX, c⟩ := Y
    have hmg : mg ("law" : PySem.Str) = some (.ref fa) := by
      have e : (HandSHeadRun.topDef (OpenLaw.row PySem.Challenge.rw_downwords_k04_common_superwords).prog 24).name = ("law" : PySem.Str) := by kernel_rfl
      rw [← e]
      exact hmg0
    obtain ⟨fd, hb, hF⟩ := DW.facts (w := w) KX G hmg c
    exact ⟨K, fd, DW.spLaw K, KX, hb, fun H a ns hl _ hS => ⟨a, ns, rfl, hS, fun _ => rfl⟩, hF⟩
