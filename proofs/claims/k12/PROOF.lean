import PyProof.Rows.All
import Wide.All
import OpenK.AllK
import Wide.FinOn
import HandS.List
import HandS.SetTxt0
import HandS.SetFor
import HandS.Strs
import HandS.Iter
import HandS.Walk
import KE.GoesMore
import KE.GoesZip
import HandS.Text
import PyProof.ListStr
import KE.KRevSl
import HandS.ForMost
import KE.KeyNested
import KE.KDictKeyed
import PyProof.DictMoreH
import PyProof.DictRoadsH
import HandS.SetKeys
import HandS.DictTup
import KE.KStar
import HandS.SortKw
import HandS.RaiseMore
import KE.SortKeyHeap
import KE.KDictCopyH
import KE.KDictSum
import KE.SortData
import HandS.More
import PyProof.FString2
import KE.KExcSuper
import HandS.Nested
import HandS.Exc
import HandS.ExcOwn
import HandS.ExcInit
import KE.KExcIs
import HandS.FStr
import HandS.ExcField
import HandS.HeadHook1
import HandS.HeadHook2
import HandS.TupMul
import HandS.Flow
import HandS.Small
import HandS.Codes
import HandS.Defaults
import HandS.WordsExc
import HandS.Conv
import HandS.Style
import HandS.NoneIn
import HandS.TupAny
import HandS.RevRange
import HandS.DictComp
import HandS.IsInst
import KE.KStateDown
import Lean
import HandS.Head0
import HandS.Head1
import HandS.Head2
import HandS.HeadEnd
import PySem.Challenge.RW_downwords_k12_common_parts
set_option Elab.async false
set_option linter.all false
set_option maxRecDepth 100000
set_option maxHeartbeats 2000000
/-! Sets of texts: set(list of texts), set(text), sorted(set). -/
namespace TX
open PySem PySem.Spec PyProof.Rows L2 PySem.Froz

/-! ### lists -/
theorem perm_of_sub {α : Type} [DecidableEq α] : ∀ (l ks : List α), l.Nodup → (∀ x ∈ l, x ∈ ks) → ks.length ≤ l.length → ks.Perm l
  | [], ks, _, _, hl => by
    have e : ks = [] := List.length_eq_zero_iff.mp (Nat.le_zero.mp hl)
    rw [e]
  | x :: l, ks, nd, sub, hl => by
    obtain ⟨hx, nd'⟩ := List.nodup_cons.mp nd
    have hk : x ∈ ks := sub x List.mem_cons_self
    have p1 : ks.Perm (x :: ks.erase x) := List.perm_cons_erase hk
    have l1 : (ks.erase x).length = ks.length - 1 := List.length_erase_of_mem hk
    have sub' : ∀ y ∈ l, y ∈ ks.erase x := fun y hy => by
      have ne : y ≠ x := fun e => hx (e ▸ hy)
      exact (List.mem_erase_of_ne ne).mpr (sub y (List.mem_cons_of_mem _ hy))
    have p2 := perm_of_sub l (ks.erase x) nd' sub' (by rw [l1]; rw [List.length_cons] at hl; omega)
    exact p1.trans (p2.cons x)

/-! ### the set's state -/
structure Ok (P : Program) (w : World) (D : SD) (l : List Str) : Prop where
  tx : TxOk P w D l
  up : Ris D.2.2.place.toList
  led : w.params.followText "set-order" = true ∨ D.2.2.led = true
  nd : l.Nodup
def At (P : Program) (w : World) (h : Heap) (a : Addr) (l : List Str) : Prop := ∃ D : SD, h.get? a = some (sObj "set" D) ∧ Ok P w D l

section
variable {P : Program} {w : World} {A : Around} {E : Value → Shared → Prop} {s : Shared}
theorem At.move {h h' : Heap} {a : Addr} {l : List Str} (x : At P w h a l) (k : ∀ o, h.get? a = some o → h'.get? a = some o) : At P w h' a l := by
  obtain ⟨D, hD, o⟩ := x
  exact ⟨D, k _ hD, o⟩
theorem tail_up {ep : Nat} {es : Array (Int × Value)} {t : SetTable} {b : Bool} (r : Ris t.place.toList) : Ris (tailTx ep es t b).2.2.place.toList := by
  unfold tailTx
  by_cases c : (!b && t.tooFull) = true
  · rw [if_pos c]
    exact relayAll_ris _ _ _
  · rw [if_neg c]
    exact r
theorem tail_led {ep : Nat} {es : Array (Int × Value)} {t : SetTable} {b : Bool} : (tailTx ep es t b).2.2.led = t.led := by
  unfold tailTx
  by_cases c : (!b && t.tooFull) = true
  · rw [if_pos c]
    exact relayAll_led _ _ _
  · rw [if_neg c]
def dull (t : SetTable) : SetTable := if t.plain = true then { t with plain := false } else t
theorem dull_place (t : SetTable) : (dull t).place = t.place := by
  unfold dull
  by_cases c : t.plain = true
  · rw [if_pos c]
  · rw [if_neg c]
theorem dull_led (t : SetTable) : (dull t).led = t.led := by
  unfold dull
  by_cases c : t.plain = true
  · rw [if_pos c]
  · rw [if_neg c]
theorem Ok.add {D : SD} {l : List Str} {k : Str} (u : Tok) (o : Ok P w D l) (hk : k ∉ l) : Ok P w (addTx (hashStr w k) (.str k u) D) (k :: l) := by
  obtain ⟨es, ep, t⟩ := D
  have r1 : Ris (layNew t es (hashStr w k) (.str k u)).2.1.place.toList := layNew_ris t es _ _ o.up
  have l1 : (layNew t es (hashStr w k) (.str k u)).2.1.led = t.led := layNew_led t es _ _
  have e : addTx (hashStr w k) (.str k u) (es, ep, t) = tailTx ep (layNew t es (hashStr w k) (.str k u)).1 (dull (layNew t es (hashStr w k) (.str k u)).2.1) (layNew t es (hashStr w k) (.str k u)).2.2.1 := rfl
  refine ⟨add_ok u o.tx, ?_, ?_, List.nodup_cons.mpr ⟨hk, o.nd⟩⟩
  · rw [e]
    exact tail_up (by rw [dull_place]; exact r1)
  · refine o.led.imp id fun z => ?_
    rw [e, tail_led, dull_led, l1]
    exact z
theorem add_old {a : Addr} {T : String} {D : SD} {l : List Str} {k : Str} {u : Tok} {Q : Bool → Shared → Prop} (ho : s.heap.get? a = some (sObj T D)) (o : TxOk P w D l) (hk : k ∈ l) (hb : l.length < scanBound) (h : Q false s) :
    wpAny (model P w) A (setAddHashed a (.str k u) (hashStr w k)) Q E s := by
  obtain ⟨es, ep, t⟩ := D
  have dd : (sObj T (es, ep, t)).data = .set es ep t := rfl
  have ft : t.fits es.size = true := o.fit
  have el : ElemsOf (strKind P w) es.toList := o.el
  have z : es.size = l.length := o.sz
  have b0 : es.size < scanBound := by omega
  have ky : (strKind P w).is k (.str k u) = true := is_str k u
  obtain ⟨e0, he0, q0⟩ := (o.mem k).mp hk
  unfold setAddHashed setAddHashedIn
  refine wpAny_holding (wpAny_bind (wpAny_setState_of ho dd ft ?_))
  dsimp only
  rw [byScan_of rfl b0 el]
  simp only [↓reduceIte]
  unfold setAddByScan
  refine wpAny_bind (wpAny_bind (wpAny_rule (wpAny_bind (wpAny_setScan_of (knd := strKind P w) (k := k) ky ho dd ft el ?_))))
  cases fi : List.findIdx? (fun e => (strKind P w).is k e.2) es.toList with
  | some j =>
    dsimp only
    exact wpAny_pure (wpAny_pure h)
  | none =>
    have c := List.findIdx?_eq_none_iff.mp fi e0 he0
    rw [q0] at c
    cases c

/-! ### the loop that fills it -/
theorem fill {I : Addr} {fp wr : List Addr} {G : Array GenState → Array GenState → Prop} {n : Nat} {Pv : Nat → Value → Prop} {St : Nat → Shared → Prop} {R : Result → Shared → Prop}
    (W : WalksS P w A.in1 I fp wr G n Pv St) (a : Addr) (ha : a ∉ fp) (xs : List Str) (hn : n = xs.length) (hb : xs.length + 1 < scanBound) (hv : ∀ i v, Pv i v → ∃ k t, xs[i]? = some k ∧ v = .str k t) :
    ∀ (m i : Nat) (s : Shared), n - i = m → i ≤ n → St i s → (∃ l, At P w s.heap a l ∧ l.length ≤ i ∧ ∀ k, k ∈ l ↔ k ∈ xs.take i) →
      (∀ s' l, Moved (a :: wr) G s s' → At P w s'.heap a l → (∀ k, k ∈ l ↔ k ∈ xs) → l.length ≤ n → R (.ok (.ret .none)) s') →
      codeAny (model P w) A (.builtin "set.update.loop" ⟨[.ref a, .ref I], []⟩) R s := by
  have aw : a ∉ wr := fun q => ha (W.sub _ q)
  have ww : ∀ b ∈ wr, b ∈ a :: wr := fun b q => List.mem_cons_of_mem _ q
  intro m
  induction m with
  | zero =>
    intro i s em hi st ⟨l, hA, hl, mem⟩ hR
    obtain rfl : i = n := by omega
    refine codeAny_builtin F.entry_set_update_loop ?_
    rw [Around.under_plainId F.plain_set_update_loop _]
    show wpAny _ A.in1 (pyNext (.ref I) >>= _) _ _ s
    refine wpAny_bind (W.done s _ _ st fun s' mv => ?_)
    show wpAny _ A.in1 (ret Value.none) _ _ s'
    have et : xs.take i = xs := List.take_of_length_le (by omega)
    rw [et] at mem
    exact wpAny_pure (hR s' l (mv.mono ww) (hA.move fun o e => mv.heap a o aw e) mem hl)
  | succ m ih =>
    intro i s em hi st ⟨l, hA, hl, mem⟩ hR
    have lt : i < n := by omega
    refine codeAny_builtin F.entry_set_update_loop ?_
    rw [Around.under_plainId F.plain_set_update_loop _]
    show wpAny _ A.in1 (pyNext (.ref I) >>= _) _ _ s
    refine wpAny_bind (W.item i s _ _ lt st fun v s1 hP st1 mv => ?_)
    obtain ⟨k, t, hk, rfl⟩ := hv i v hP
    obtain ⟨D, hD, oD⟩ := hA.move (h' := s1.heap) fun o e => mv.heap a o aw e
    show wpAny _ A.in1 (holding [Value.str k t] (setAdd a (.str k t)) >>= _) _ _ s1
    refine wpAny_bind (wpAny_holding ?_)
    unfold setAdd
    refine wpAny_holding (wpAny_bind ((strKind P w).pyHash (k := k) (is_str k t) ?_))
    have tk : xs.take (i + 1) = xs.take i ++ [k] := by rw [List.take_add_one, hk] <;> rfl
    by_cases kl : k ∈ l
    · refine add_old (s := { s1 with toks := s1.toks + 1 }) hD oD.tx kl (by omega) ?_
      refine wpAny_pure ⟨plainId_quiet F.plain_set_update_loop _, ih (i + 1) _ (by omega) lt (W.frame _ s1 _ _ st1 (Nat.le_succ _) fun b _ o e => e) ⟨l, ⟨D, hD, oD⟩, by omega, fun j => ?_⟩ fun s2 l2 mv2 hA2 mem2 hl2 => ?_⟩
      · rw [tk, List.mem_append, List.mem_singleton, ← mem j]
        exact ⟨.inl, fun q => q.elim id fun e => e ▸ kl⟩
      · exact hR s2 l2 (Moved.trans W.gtrans ((mv.mono ww).then_heap (Nat.le_succ _) fun b o _ e => e) mv2) hA2 mem2 hl2
    · refine add_x (s := { s1 with toks := s1.toks + 1 }) hD oD.tx kl (by omega) ?_
      have hg : (s1.heap.update a (fun _ => sObj "set" (addTx (hashStr w k) (.str k t) D))).get? a = some (sObj "set" (addTx (hashStr w k) (.str k t) D)) := get_upd _ hD rfl
      have ot : ∀ b o, b ≠ a → s1.heap.get? b = some o → (s1.heap.update a (fun _ => sObj "set" (addTx (hashStr w k) (.str k t) D))).get? b = some o :=
        fun b o ne e => (Heap.get?_update_other _ _ (Ne.symm ne)).trans e
      refine wpAny_pure ⟨plainId_quiet F.plain_set_update_loop _, ih (i + 1) _ (by omega) lt (W.frame _ s1 _ _ st1 (Nat.le_succ _) fun b q o e => ?_) ⟨k :: l, ⟨_, hg, oD.add t kl⟩, by rw [List.length_cons]; omega, fun j => ?_⟩ fun s2 l2 mv2 hA2 mem2 hl2 => ?_⟩
      · exact ot b o (fun z => ha (z ▸ q)) e
      · rw [tk, List.mem_append, List.mem_singleton, ← mem j, List.mem_cons]
        exact Or.comm
      · refine hR s2 l2 (Moved.trans W.gtrans ((mv.mono ww).then_heap (Nat.le_succ _) fun b o q e => ?_) mv2) hA2 mem2 hl2
        exact ot b o (fun z => q (z ▸ List.mem_cons_self)) e
end

/-! ### set(v) -/
abbrev fresh (w : World) : Obj := { cls := .type "set", dict := none, data := .set #[] 0 (.fresh 0 0 (!w.params.followText "set-order")) }
theorem fresh_ok {P : Program} {w : World} : Ok P w (#[], 0, .fresh 0 0 (!w.params.followText "set-order")) [] where
  tx := TxOk.nil (by rfl)
  up := List.Pairwise.nil
  led := by
    show _ ∨ (!w.params.followText "set-order") = true
    cases w.params.followText "set-order"
    · exact .inr rfl
    · exact .inl rfl
  nd := List.nodup_nil
theorem at_fresh {P : Program} {w : World} {h : Heap} {a : Addr} (e : h.get? a = some (fresh w)) : At P w h a [] := ⟨(#[], 0, .fresh 0 0 (!w.params.followText "set-order")), e, fresh_ok⟩

section
variable {P : Program} {w : World} {A : Around} {E : Value → Shared → Prop} {s : Shared}
/-- what set(v) leaves: a new object, all else as it was -/
def Left (P : Program) (w : World) (s : Shared) (xs : List Str) (s' : Shared) : Prop :=
  ∃ h' tk l, s' = { s with heap := h', toks := tk } ∧ At P w h' s.heap.objs.size l ∧ (∀ k, k ∈ l ↔ k ∈ xs) ∧ l.length ≤ xs.length ∧ ∀ b o, s.heap.get? b = some o → h'.get? b = some o
set_option maxHeartbeats 4000000 in
theorem call_set_of {v : Value} {xs : List Str} {Q : Value → Shared → Prop}
    (hI : ∀ A' : Around, A'.handled = A.handled → wpAny (model P w) A' (Builtin.«set.__init__» ⟨[.ref s.heap.objs.size, v], []⟩) (fun f s2 => f = .done (.ret .none) ∧ Left P w s xs s2) E { s with heap := s.heap.push (fresh w) })
    (h : ∀ s', Left P w s xs s' → Q (.ref s.heap.objs.size) s') :
    wpAny (model P w) A (call (.type "set") [v]) Q E s := by
  obtain ⟨c, tl, hmro⟩ := F.called_set.mro
  have hmade := F.called_set.made
  have hsub := F.called_set.sub
  refine wpAny_call (codeAny_of_tree ?_)
  show wpAny _ _ (callAny (.type "set") _) _ _ _
  refine wpAny_pure ⟨Code.quiet_builtin _ (by decide +kernel), codeAny_builtin F.entry_type_call ?_⟩
  rw [Around.under_plain (weight_type_call_type "set" [v] []) rfl]
  have h1 := F.called_set.notType
  have h2 := F.called_set.canCreate
  have hct := F.typeCall_set_1 v
  repeat (any_goals (first | assumption | wp_step))
  refine codeAny_mono (code_set_led1 v (E := E) (Q₁ := fun obj s₁ => obj = .ref s.heap.objs.size ∧ s₁ = { s with heap := s.heap.push (fresh w) }) ⟨rfl, rfl⟩) fun r s₁ hr => ?_
  cases r with
  | error e => exact hr
  | ok fl =>
    cases fl with
    | ret obj =>
      obtain ⟨rfl, rfl⟩ := hr
      have hS : (s.heap.push (fresh w)).get? s.heap.objs.size = some (fresh w) := Heap.get?_push_size _ rfl
      have hT : Shared.TypeIs { s with heap := s.heap.push (fresh w) } (.ref s.heap.objs.size) "set" := ⟨_, hS, rfl⟩
      have hli := F.called_set.init.lookup
      have hbi := F.called_set.init.bind (.ref s.heap.objs.size)
      repeat (any_goals (first | assumption | wp_step))
      refine codeAny_mono (codeAny_call_builtin (R := wants (fun r s₂ => r = .none ∧ Left P w s xs s₂) E) F.called_set.init.plain F.entry_set_init (check_set_init_1 hT ?_)) fun r₂ s₂ hr₂ => ?_
      · refine wpAny_mono (hI A.in1.in1 (by simp)) (fun f s2 q => ?_) fun e s2 q => q
        obtain ⟨rfl, q⟩ := q
        exact ⟨rfl, q⟩
      · cases r₂ with
        | error e => exact hr₂
        | ok fl₂ =>
          cases fl₂ with
          | ret r =>
            obtain ⟨rfl, hL⟩ := hr₂
            repeat (any_goals (first | assumption | wp_step))
            exact h _ hL
          | _ => exact hr₂.elim
    | _ => exact hr.elim
theorem left_of {a : Addr} {wr : List Addr} {xs l : List Str} {s s1 s' : Shared} (ea : a = s.heap.objs.size) (hw : ∀ b ∈ wr, s.heap.objs.size ≤ b) (k1 : ∀ b o, s.heap.get? b = some o → s1.heap.get? b = some o)
    (eg : s1.gens = s.gens) (ed : s1.drawn = s.drawn) (eo : s1.os = s.os) (mv : Moved (a :: wr) (fun x y => y = x) s1 s') (hA : At P w s'.heap a l) (mem : ∀ k, k ∈ l ↔ k ∈ xs) (hl : l.length ≤ xs.length) : Left P w s xs s' := by
  obtain ⟨h', g', d', tk', os'⟩ := s'
  have e1 : g' = s.gens := mv.gens.trans eg
  have e2 : d' = s.drawn := mv.drawn.trans ed
  have e3 : os' = s.os := mv.os.trans eo
  subst e1 e2 e3 ea
  refine ⟨h', tk', l, rfl, hA, mem, hl, fun b o e => ?_⟩
  have lt : b < s.heap.objs.size := Heap.lt_size e
  refine mv.heap b o (fun z => ?_) (k1 b o e)
  rcases List.mem_cons.mp z with z | z
  · exact absurd z (Nat.ne_of_lt lt)
  · exact absurd (hw b z) (Nat.not_le_of_lt lt)
set_option maxHeartbeats 4000000 in
theorem init_list {l : Addr} {items : Array Value} {xs : List Str} (hh : A.handled = none) (hl : s.heap.IsList l items) (hi : StrsAre items.toList xs) (hb : xs.length + 1 < scanBound) :
    wpAny (model P w) A (Builtin.«set.__init__» ⟨[.ref s.heap.objs.size, .ref l], []⟩) (fun f s2 => f = .done (.ret .none) ∧ Left P w s xs s2) E { s with heap := s.heap.push (fresh w) } := by
  have hsz : xs.length = items.size := by rw [← StrsAre.len_eq hi, Array.length_toList]
  have hv : ∀ (i : Nat) (v : Value), items[i]? = some v → ∃ k t, xs[i]? = some k ∧ v = .str k t := fun i v q => by
    have hi' : i < xs.length := by rw [hsz]; exact (Array.getElem?_eq_some_iff.mp q).1
    obtain ⟨t, e⟩ := SS.strs_at hi i v (by rw [Array.getElem?_toList]; exact q)
    refine ⟨xs[i], t, List.getElem?_eq_getElem hi', ?_⟩
    rw [e, List.getD_eq_getElem?_getD, List.getElem?_eq_getElem hi'] <;> rfl
  have hS : (s.heap.push (fresh w)).get? s.heap.objs.size = some (fresh w) := Heap.get?_push_size _ rfl
  have hT : Shared.TypeIs { s with heap := s.heap.push (fresh w) } (.ref s.heap.objs.size) "set" := ⟨_, hS, rfl⟩
  obtain ⟨ol, hol, hcl, nl, hdl⟩ := id hl
  obtain ⟨ocls, odict, odata, oslots⟩ := ol
  simp only at hcl hdl
  subst hcl; subst hdl
  have hol1 : (s.heap.push (fresh w)).get? l = some { cls := .type "list", dict := odict, data := .seq items nl, slots := oslots } := Heap.get?_push_of_some _ hol
  have f1 := F.sub_list_set
  have f2 := F.sub_list_frozenset
  have f3 : (Value.type "list" == Value.type "dict") = false := by decide
  have hl1 : (s.heap.push (fresh w)).IsList l items := ⟨_, hol1, rfl, nl, rfl⟩
  have lS : l < s.heap.objs.size := Heap.lt_size hol
  have nI : l ≠ (s.heap.push (fresh w)).objs.size := by
    rw [Heap.size_push]
    exact Nat.ne_of_lt (Nat.lt_succ_of_lt lS)
  have nS : s.heap.objs.size ∉ [(s.heap.push (fresh w)).objs.size, l] := by
    rw [Heap.size_push]
    intro q
    rcases List.mem_cons.mp q with q | q
    · exact absurd q (Nat.ne_of_lt (Nat.lt_succ_self _))
    · exact absurd (List.mem_singleton.mp q) (Nat.ne_of_gt lS)
  have z1 : (s.heap.push (fresh w)).objs.size = s.heap.objs.size + 1 := Heap.size_push ..
  unfold Builtin.«set.__init__» noKeywords Builtin.Frozenset.updateFrom
  generalize ePI : pyIter = PI
  wp_walk
  subst ePI
  refine wpAny_pyIter_list hl1 ?_
  refine wpAny_bind (wpAny_runValue ?_)
  refine fill ((Walks.list (by simp [hh]) _ l nI items).toS) s.heap.objs.size nS xs hsz.symm hb hv (items.size - 0) 0 _ rfl (Nat.zero_le _)
    ⟨⟨_, Heap.get?_push_size _ rfl, rfl, rfl⟩, hl1.push _⟩ ⟨[], at_fresh (Heap.get?_push_of_some _ hS), Nat.le_refl _, fun k => by simp⟩ fun s' m mv hA mem hm => ?_
  show wpAny _ _ _ _ _ _
  refine wpAny_pure ?_
  show wpAny _ _ (ret Value.none) _ _ _
  refine wpAny_pure ⟨rfl, left_of (wr := [_]) rfl ?_ ?k1 ?e1 ?e2 ?e3 mv hA mem (by omega)⟩
  case k1 => exact fun b o e => Heap.get?_push_of_some _ (Heap.get?_push_of_some _ e)
  case e1 => rfl
  case e2 => rfl
  case e3 => rfl
  intro b q
  rw [List.mem_singleton.mp q]
  show _ ≤ (s.heap.push (fresh w)).objs.size
  rw [z1]
  exact Nat.le_succ _
set_option maxHeartbeats 4000000 in
theorem init_text {x : Str} {t : Tok} (hh : A.handled = none) (hb : x.length + 1 < scanBound) :
    wpAny (model P w) A (Builtin.«set.__init__» ⟨[.ref s.heap.objs.size, .str x t], []⟩) (fun f s2 => f = .done (.ret .none) ∧ Left P w s (x.cps.toList.map fun c => (⟨#[c]⟩ : Str)) s2) E { s with heap := s.heap.push (fresh w) } := by
  have hsz : (x.cps.toList.map fun c => (⟨#[c]⟩ : Str)).length = x.cps.size := by rw [List.length_map, Array.length_toList]
  have hx : x.length = x.cps.size := rfl
  have hv : ∀ (i : Nat) (v : Value), SignAt x i v → ∃ k t, (x.cps.toList.map fun c => (⟨#[c]⟩ : Str))[i]? = some k ∧ v = .str k t := fun i v ⟨c, u, q, e⟩ => by
    refine ⟨⟨#[c]⟩, u, ?_, e⟩
    rw [List.getElem?_map, Array.getElem?_toList, q] <;> rfl
  have hS : (s.heap.push (fresh w)).get? s.heap.objs.size = some (fresh w) := Heap.get?_push_size _ rfl
  have hT : Shared.TypeIs { s with heap := s.heap.push (fresh w) } (.ref s.heap.objs.size) "set" := ⟨_, hS, rfl⟩
  have hTx : Shared.TypeIs { s with heap := s.heap.push (fresh w) } (.str x t) "str" := typeIs_str _ x t
  have f1 := PySem.F.sub_str_set
  have f2 := PySem.F.sub_str_frozenset
  have f3 : (Value.type "str" == Value.type "dict") = false := by decide
  have z1 : (s.heap.push (fresh w)).objs.size = s.heap.objs.size + 1 := Heap.size_push ..
  unfold Builtin.«set.__init__» noKeywords Builtin.Frozenset.updateFrom
  generalize ePI : pyIter = PI
  wp_walk
  subst ePI
  refine wpAny_pyIter_str fun o St W st => ?_
  refine wpAny_bind (wpAny_runValue ?_)
  refine fill ((W _ (by simp [hh])).toS) s.heap.objs.size (by rw [z1]; simp) _ hsz.symm (by rw [hsz, ← hx]; exact hb) hv (x.cps.size - 0) 0 _ rfl (Nat.zero_le _)
    st ⟨[], at_fresh (Heap.get?_push_of_some _ hS), Nat.le_refl _, fun k => by simp⟩ fun s' m mv hA mem hm => ?_
  show wpAny _ _ _ _ _ _
  refine wpAny_pure ?_
  show wpAny _ _ (ret Value.none) _ _ _
  refine wpAny_pure ⟨rfl, left_of (wr := [_]) rfl ?_ ?k1 ?e1 ?e2 ?e3 mv hA mem (by rw [hsz]; exact hm)⟩
  case k1 => exact fun b o e => Heap.get?_push_of_some _ (Heap.get?_push_of_some _ e)
  case e1 => rfl
  case e2 => rfl
  case e3 => rfl
  intro b q
  rw [List.mem_singleton.mp q]
  show _ ≤ (s.heap.push (fresh w)).objs.size
  rw [z1]
  exact Nat.le_succ _

/-! ### sorted(set) -/
theorem texts_of {es : List (Int × Value)} (el : ElemsOf (strKind P w) es) : ∀ vs : List Value, (∀ v ∈ vs, v ∈ es.map (·.2)) → ∃ ks : List Str, StrsAre vs ks ∧ (∀ k, k ∈ ks ↔ ∃ v ∈ vs, (strKind P w).is k v = true) ∧ ks.length = vs.length
  | [], _ => ⟨[], .nil, fun k => by simp, rfl⟩
  | v :: vs, h => by
    obtain ⟨ks, h1, h2, h3⟩ := texts_of el vs fun u q => h u (List.mem_cons_of_mem _ q)
    obtain ⟨e, he, ev⟩ := List.mem_map.mp (h v List.mem_cons_self)
    obtain ⟨⟨k, hk, _⟩, _⟩ := el e he
    rw [ev] at hk
    obtain ⟨t, rfl⟩ := Value.isStrOf_shape hk
    refine ⟨k :: ks, .cons k t h1, fun j => ?_, by rw [List.length_cons, List.length_cons, h3]⟩
    rw [List.mem_cons, h2 j]
    constructor
    · rintro (q | ⟨u, hu, q⟩)
      · exact ⟨_, List.mem_cons_self, by rw [q]; exact hk⟩
      · exact ⟨u, List.mem_cons_of_mem _ hu, q⟩
    · rintro ⟨u, hu, q⟩
      rcases List.mem_cons.mp hu with z | z
      · rw [z] at q
        exact .inl ((strKind P w).inj _ _ _ q hk)
      · exact .inr ⟨u, z, q⟩
theorem sorted_at {a : Addr} {l : List Str} {Q : Value → Shared → Prop} (R : At P w s.heap a l) (hh : A.handled = none) (h64 : l.length < 64)
    (hQ : ∀ s' p (out : Array Value) (c : Nat) (ys : List Str), (∀ b o, s.heap.get? b = some o → s'.heap.get? b = some o) → s'.gens = s.gens → s'.os = s.os → s.heap.objs.size ≤ p →
      s'.heap.get? p = some (seqObj "list" out c) → StrsAre out.toList ys → ys.Perm l → sortedS ys = true → Q (.ref p) s') :
    wpAny (model P w) A (call (.builtin "sorted") [.ref a]) Q E s := by
  obtain ⟨⟨es, ep, t⟩, ho, ok⟩ := R
  have ft : t.fits es.size = true := ok.tx.fit
  have z : es.size = l.length := ok.tx.sz
  have sb : es.size < scanBound := by
    unfold scanBound
    omega
  refine Calls.call_function_entry kind_sorted plain_sorted entry_sorted (args_sorted1 _) ?_
  unfold Builtin.«sorted»
  refine wpAny_bind (m := checkCount "sorted" 1 1 _) (wpAny_pure ?_)
  refine wpAny_bind (collect_set (A := A.in1) hh ⟨_, ho, rfl, rfl⟩ ft sb ok.up ok.led fun s1 vs k1 hz g1 o1 pm => ?_)
  obtain ⟨ks, hS, mem, hlen⟩ := texts_of ok.tx.el vs fun v hv => pm.mem_iff.mp hv
  have vl : vs.length = l.length := by rw [pm.length_eq, List.length_map, Array.length_toList]; exact z
  have pk : ks.Perm l := perm_of_sub l ks ok.nd (fun k hk => by
    obtain ⟨e, he, q⟩ := (ok.tx.mem k).mp hk
    exact (mem k).mpr ⟨e.2, pm.mem_iff.mpr (List.mem_map.mpr ⟨e, he, rfl⟩), q⟩) (by omega)
  refine wpAny_bind (wpAny_newList ?_ (by rw [vl, sizeLine_eq]; omega))
  have hoL : (s1.heap.push (seqObj "list" vs.toArray 0)).get? s1.heap.objs.size = some (seqObj "list" vs.toArray 0) := Heap.get?_push_size _ rfl
  refine wpAny_bind (wpAny_holding (wpAny_call_entry slot_list_sort ⟨_, hoL, rfl⟩ entry_list_sort
    (list_sort_treeK strKind_oneLt hoL hS.keysOf (fun v₁ v₂ rest e => keyKind_strs (by rw [← e]; exact hS)) (by rw [vl]; exact h64) fun st' hp hs => ?_) (args_list_sort _)))
  obtain ⟨ys, y1, y2, y3⟩ := sorted_out_str hS hp hs
  obtain ⟨c, hc⟩ := sortedHeap_at (vs := vs) (out := Array.map (fun x => x.snd) (arrOf st')) hoL
  refine ⟨_, rfl, wpAny_pure ⟨_, rfl, hQ _ s1.heap.objs.size _ c ys (fun b u e => ?_) g1 o1 hz hc y1 (y2.trans pk) y3⟩⟩
  have q := k1 b u e
  have lt := Heap.lt_size q
  show (sortedHeap (s1.heap.push (seqObj "list" vs.toArray 0)) s1.heap.objs.size vs _).get? b = some u
  rw [sortedHeap_old (Nat.ne_of_lt lt) (by rw [Heap.size_push]; exact Nat.lt_succ_of_lt lt)]
  exact Heap.get?_push_of_some _ q
end

/-! ### over the layer -/
def SetTx (P : Program) (w : World) (a : Addr) (l : List Str) : HO := .ext fun h => At P w h a l
theorem setTx_new {P : Program} {w : World} {H : Hp} {h : Heap} {a : Addr} {l : List Str} (R : At P w h a l) : ObjOk P w H h a (SetTx P w a l) := by
  have ⟨D, hD, _⟩ := R
  exact ⟨R, ⟨_, hD⟩, fun h1 h2 p k => At.move p k⟩
section
variable {X : Cx}
/-- set(xs), xs a list of texts -/
def rSetL (K : PySem.W.Frag) (P : Program) (w : World) : List V → Hp → VK → Prop := fun xs H Q => ∃ (l : Addr) (ss : List Str), xs = [V.ref l] ∧ SqL K H l (ss.map V.str) ∧ ss.length + 1 < scanBound ∧
  ∀ (a : Addr) (ls : List Str), H a = none → ls.Nodup → (∀ k, k ∈ ls ↔ k ∈ ss) → ls.length ≤ ss.length → Q (.ref a) (upd H a (SetTx P w a ls))
theorem At.nd {P : Program} {w : World} {h : Heap} {a : Addr} {l : List Str} (x : At P w h a l) : l.Nodup := by
  obtain ⟨D, _, o⟩ := x
  exact o.nd
theorem cr_setL (hc : X.calm = true) : CallR X (.type "set") (rSetL X.K X.prog X.w) := by
  intro pins s σ H xs us Q I r h
  obtain ⟨l, ss, rfl, hs, hb, q⟩ := h
  obtain ⟨its, rv, hl, _⟩ := I.list hs
  rw [Vals.ref1 r]
  have hn : H s.heap.objs.size = none := I.hok.fresh (Nat.le_refl _)
  refine call_set_of (xs := ss) (fun A' e => init_list (e.trans (I.ok.hd hc)) hl.isList rv.strs hb) fun s' L => ?_
  obtain ⟨h', tk, ls, rfl, hA, mem, hlen, kp⟩ := L
  exact ⟨.ref s.heap.objs.size, upd H s.heap.objs.size (SetTx X.prog X.w s.heap.objs.size ls), I.laid (t' := tk) kp (Nat.le_refl _) (setTx_new hA), rfl, q _ ls hn hA.nd mem hlen⟩
def signs (x : Str) : List Str := x.cps.toList.map fun c => (⟨#[c]⟩ : Str)
/-- set(x), x a text -/
def rSetT (P : Program) (w : World) : List V → Hp → VK → Prop := fun xs H Q => ∃ (x : Str), xs = [V.str x] ∧ x.length + 1 < scanBound ∧
  ∀ (a : Addr) (ls : List Str), H a = none → ls.Nodup → (∀ k, k ∈ ls ↔ k ∈ signs x) → ls.length ≤ x.length → Q (.ref a) (upd H a (SetTx P w a ls))
theorem cr_setT (hc : X.calm = true) : CallR X (.type "set") (rSetT X.prog X.w) := by
  intro pins s σ H xs us Q I r h
  obtain ⟨x, rfl, hb, q⟩ := h
  obtain ⟨t, rfl⟩ : ∃ t, us = [Value.str x t] := by
    cases r with
    | cons r1 r2 =>
      cases r2
      obtain ⟨t, rfl⟩ := r1
      exact ⟨t, rfl⟩
  have hn : H s.heap.objs.size = none := I.hok.fresh (Nat.le_refl _)
  refine call_set_of (xs := x.cps.toList.map fun c => (⟨#[c]⟩ : Str)) (fun A' e => init_text (e.trans (I.ok.hd hc)) hb) fun s' L => ?_
  obtain ⟨h', tk, ls, rfl, hA, mem, hlen, kp⟩ := L
  rw [List.length_map, Array.length_toList] at hlen
  exact ⟨.ref s.heap.objs.size, upd H s.heap.objs.size (SetTx X.prog X.w s.heap.objs.size ls), I.laid (t' := tk) kp (Nat.le_refl _) (setTx_new hA), rfl, q _ ls hn hA.nd mem hlen⟩
/-- sorted(found) of texts, fewer than 64 -/
def rSortTx (P : Program) (w : World) : List V → Hp → VK → Prop := fun vs H Q => ∃ (a : Addr) (l : List Str), vs = [V.ref a] ∧ H a = some (SetTx P w a l) ∧ l.length < 64 ∧
  ∀ (ys : List Str) (p : Addr), ys.Perm l → sortedS ys = true → H p = none → Q (.ref p) (upd H p (.lst (ys.map V.str)))
theorem cr_sortTx (hc : X.calm = true) : CallR X (.builtin "sorted") (rSortTx X.prog X.w) := by
  intro pins s σ H vs us Q I r h
  obtain ⟨a, l, rfl, ha, h64, q⟩ := h
  have R : At X.prog X.w s.heap a l := (I.hok a _ ha).1
  rw [Vals.ref1 r]
  refine sorted_at R (I.ok.hd hc) h64 fun s' p out c ys k g o hp hg hi pm so => ?_
  have hlen : (ys.map V.str).length ≤ sizeLine := by
    rw [List.length_map, pm.length_eq, sizeLine_eq]
    omega
  have hn : H p = none := I.hok.fresh hp
  have J : Inv X pins σ (upd H p (.lst (ys.map V.str))) { s with heap := s'.heap, gens := s'.gens, drawn := s'.drawn, toks := s'.toks } :=
    I.call (ch := []) (Un.laid k hp hn) (I.hok.laid k hp ⟨hlen, out.toList, c, vals_of_strs hi, hg⟩) (by rw [g]; exact I.bare) (fun _ z => nomatch z)
  have e : s' = { s with heap := s'.heap, gens := s'.gens, drawn := s'.drawn, toks := s'.toks } := by
    cases s'
    cases s
    cases o
    rfl
  rw [e]
  exact ⟨.ref p, _, J, rfl, q ys p pm so hn⟩
end
end TX
namespace DW
open PySem PySem.Spec PyProof.Rows L2
def topS (i : Nat) : Stmt := PySem.Challenge.pw_downwords_k12_common_parts.main.body.getD i (.Pass ⟨0, 0, 0, 0⟩)
abbrev sFormatFactor : Stmt := topS 6
abbrev sFormatProduct : Stmt := topS 7
abbrev sLettersOf : Stmt := topS 8
abbrev sSwallows : Stmt := topS 9
abbrev sCovers : Stmt := topS 10
abbrev sReduceProduct : Stmt := topS 11
abbrev sBehind : Stmt := topS 12
abbrev sPlaceBehind : Stmt := topS 13
abbrev sIsIncluded : Stmt := topS 14
abbrev sSubwordsProduct : Stmt := topS 15
abbrev sStarProduct : Stmt := topS 16
abbrev sByWrittenForm : Stmt := topS 17
abbrev sInFront : Stmt := topS 18
abbrev sPlacesBehind : Stmt := topS 19
abbrev sPlacesByLetter : Stmt := topS 20
abbrev sBranchOf : Stmt := topS 21
abbrev sIsInLargerBranch : Stmt := topS 22
abbrev sJoinBranches : Stmt := topS 23
abbrev sCommonFrom : Stmt := topS 24
abbrev sCommonProducts : Stmt := topS 25
abbrev sCommonPart : Stmt := topS 26
abbrev sBegin : Stmt := topS 28
abbrev sDraw : Stmt := topS 29
abbrev sPick : Stmt := topS 30
abbrev sAlpha : Stmt := topS 31
abbrev sFactor : Stmt := topS 32
abbrev sProduct : Stmt := topS 33
abbrev sLWords : Stmt := topS 34
abbrev sLInProduct : Stmt := topS 35
abbrev sLIn : Stmt := topS 36
abbrev sLLimit : Stmt := topS 37
abbrev sLaw : Stmt := topS 38
end DW
/-! zip(text, text) -/
namespace ZX
open PySem PySem.Spec PyProof.Rows L2
/-- the signs of two texts, side by side, in new pairs -/
def Itx (x y : Str) : It :=
  ⟨fun i _ => i < x.cps.size ∧ i < y.cps.size,
    fun i H v H' => ∃ (T : Addr) (c d : Nat), v = .ref T ∧ H T = none ∧ H' = upd H T (.tup [.str ⟨#[c]⟩, .str ⟨#[d]⟩]) ∧ x.cps[i]? = some c ∧ y.cps[i]? = some d,
    fun i _ => i = min x.cps.size y.cps.size⟩
theorem turn_zipX {P : Program} {w : World} {K : PySem.W.Frag} {elts : List Expr} {kk : Nat} {tpos : Pos} {x y : Str} {t u : Tok} {z TI TO i1 i2 : Addr} (S : ZipSep2 z TI TO i1 i2 [i1] [i2]) :
    Turn P w K (.Tuple elts kk tpos) (Itx x y) [z, TI, TO, i1, i2] z (fun i h => IsZip h z TI TO .none ∧ IsTupOf2 h TI (.ref i1) (.ref i2) ∧ (∃ a b, IsTupOf2 h TO a b) ∧ h.IsStrIter i1 (strIterType x) x t i ∧ h.IsStrIter i2 (strIterType y) y u i) where
  mem := by simp
  obj := fun i h st c hc => by
    obtain ⟨hz, hTI, ⟨a, b, hTO⟩, ⟨o1, e1, _, d1⟩, ⟨o2, e2, _, d2⟩⟩ := st
    have e' : c = z ∨ c = TI ∨ c = TO ∨ c = i1 ∨ c = i2 := by simpa using hc
    rcases e' with q | q | q | q | q
    · rw [q]; exact ⟨_, hz, fun v q => nomatch q⟩
    · rw [q]; exact ⟨_, hTI, fun v q => nomatch q⟩
    · rw [q]; exact ⟨_, hTO, fun v q => nomatch q⟩
    · rw [q]; exact ⟨o1, e1, fun v q => by rw [d1] at q; cases q⟩
    · rw [q]; exact ⟨o2, e2, fun v q => by rw [d2] at q; cases q⟩
  keep := fun i h h' st k => by
    obtain ⟨hz, hTI, ⟨a, b, hTO⟩, ⟨o1, e1, r1⟩, ⟨o2, e2, r2⟩⟩ := st
    exact ⟨k z (by simp) _ hz, k TI (by simp) _ hTI, ⟨a, b, k TO (by simp) _ hTO⟩, ⟨o1, k i1 (by simp) _ e1, r1⟩, ⟨o2, k i2 (by simp) _ e2, r2⟩⟩
  item := by
    intro X hP hw hK hc i pins s σ H E I hf st hg
    subst hP hw hK
    obtain ⟨hz, hTI, ⟨a0, b0, hTO⟩, h1, h2⟩ := st
    have hzl : z < s.heap.objs.size := Heap.lt_size hz
    refine wpAny_pyNext_zipD2_item S (Draws.text (A := X.A.in1) (I.ok.hd hc) i1 x t) (Draws.text (A := X.A.in1) (I.ok.hd hc) i2 y u) hz hTI hTO h1 h2 hg.1 hg.2 fun v1 v2 h' tk p1 p2 z' TO' h1' h2' hT hsz hk => ?_
    obtain ⟨c, tc, hc1, rfl⟩ := p1
    obtain ⟨d, td, hd1, rfl⟩ := p2
    refine ⟨_, rfl, wpAny_letOwnedTupleGo_zip (s := { s with heap := h', toks := tk }) z' fun h'' z'' sb => ?_⟩
    have hT2 : h''.get? s.heap.objs.size = some { cls := .type "tuple", data := .seq #[.str ⟨#[c]⟩ tc, .str ⟨#[d]⟩ td] } := (sb.2 _ (Nat.ne_of_gt hzl)).trans hT
    have new : ObjOk X.prog X.w (upd H s.heap.objs.size (.tup [.str ⟨#[c]⟩, .str ⟨#[d]⟩])) h'' s.heap.objs.size (.tup [.str ⟨#[c]⟩, .str ⟨#[d]⟩]) :=
      ⟨by show 2 ≤ sizeLine; decide, [.str ⟨#[c]⟩ tc, .str ⟨#[d]⟩ td], .cons ⟨_, rfl⟩ (.cons ⟨_, rfl⟩ .nil), ⟨_, hT2, rfl, _, rfl⟩⟩
    have I1 : Inv X pins σ (upd H s.heap.objs.size (.tup [.str ⟨#[c]⟩, .str ⟨#[d]⟩])) { s with heap := h'', toks := tk } :=
      I.turnedNew (t' := tk) (ch := [z, TI, TO, i1, i2]) (fun c o hb q => (sb.2 c (fun q' => hb (by simp [q']))).trans (hk c o (fun q' => hb (by simp [q'])) (fun q' => hb (by simp [q'])) (fun q' => hb (by simp [q'])) (fun q' => hb (by simp [q'])) q)) hf (Nat.le_refl _) new
    have st' : ∀ {a : Addr} {ty : String} {v : Str} {tv : Tok} {n : Nat}, a ≠ z → h'.IsStrIter a ty v tv n → h''.IsStrIter a ty v tv n := fun n ⟨o, e, r⟩ => ⟨o, (sb.2 _ n).trans e, r⟩
    refine ⟨.ref s.heap.objs.size, _, I1, rfl, ⟨_, c, d, rfl, I.hok.fresh (Nat.le_refl _), rfl, hc1, hd1⟩, ⟨z'', ?_, ⟨.str ⟨#[c]⟩ tc, .str ⟨#[d]⟩ td, ?_⟩, st' S.zi1.symm h1', st' S.zi2.symm h2'⟩, fun b hb => ?_⟩
    · exact (sb.2 _ S.TIz).trans (hk _ _ S.TIz S.TITO S.TIi1 S.TIi2 hTI)
    · exact (sb.2 _ S.TOz).trans TO'
    · have hlt : b < s.heap.objs.size := by
        have e' : b = z ∨ b = TI ∨ b = TO ∨ b = i1 ∨ b = i2 := by simpa using hb
        rcases e' with q | q | q | q | q
        · rw [q]; exact hzl
        · rw [q]; exact Heap.lt_size hTI
        · rw [q]; exact Heap.lt_size hTO
        · rw [q]; obtain ⟨_, e1, _⟩ := h1; exact Heap.lt_size e1
        · rw [q]; obtain ⟨_, e2, _⟩ := h2; exact Heap.lt_size e2
      rw [upd_ne (Nat.ne_of_lt hlt)]
      exact (hf b hb).1
  done := by
    intro X hP hw hK hc i pins s σ H E I hf st hg
    subst hP hw hK
    obtain ⟨hz, hTI, ⟨a0, b0, hTO⟩, h1, h2⟩ := st
    have hg' : i = min x.cps.size y.cps.size := hg
    exact wpAny_pyNext_zipD2_end S (Draws.text (A := X.A.in1) (I.ok.hd hc) i1 x t) (Draws.text (A := X.A.in1) (I.ok.hd hc) i2 y u) hz hTI hTO h1 h2 (by omega) (by omega) (by omega) fun h' tk hk => ⟨rfl, I.turnedL (t' := tk) (ch := [z, TI, TO, i1, i2]) (fun c o hb q =>
      hk c o (fun q' => hb (by simp [q'])) (fun q' => hb (by simp [q'])) (fun q' => hb (by simp [q'])) (fun q' => hb (by simp [q'])) q) hf⟩
  self := fun A i s Q E st h => wpAny_pyIter_zip st.1 h
theorem sep_new (n : Addr) : ZipSep2 (n + 4) (n + 2) (n + 3) n (n + 1) [n] [n + 1] := by
  constructor <;> simp <;> omega
def iZipX (ta : TA) : TI := fun σ H R => ta σ H fun vs H1 => ∃ x y : Str, vs = [.str x, .str y] ∧ R (Itx x y) H1
theorem pi_zipX {X : Cx} {e e2 : Expr} {ta : TA} {p pos tpos : Pos} {elts : List Expr} {kk : Nat} (hg : Gl X "zip") (hm : X.mg "zip" = none) (ha : PA X [e, e2] ta)
    (hs : starEach [e, e2] X.env = (false, eval e X.env) :: starEach [e2] X.env := by rfl) (hpl : (backTo pos (starEach [e2] X.env)).any (·.1) = false := by rfl) :
    PI X (.Tuple elts kk tpos) (.Call (.Name "zip" p) [e, e2] [] pos) (iZipX ta) := by
  refine ⟨fun pins s σ H R I h => ?_⟩
  refine Call_ (ld_blt I hg hm PyProof.Rows.boot_zip (PyProof.Rows.callWith_type1 (thn (ha.run pos pins s σ H _ I h) fun us s1 ⟨vs, H1, I1, r1, q1⟩ => ?_) hs hpl))
  obtain ⟨x, y, ex, q⟩ := q1
  subst ex
  cases r1 with
  | cons r rr =>
    cases rr with
    | cons r' rr =>
      cases rr
      obtain ⟨t, rfl⟩ := r
      obtain ⟨u, rfl⟩ := r'
      refine zip_begins2 (begins_text x t) (begins_text y u) trivial trivial fun h' hz hTI hTO h1 h2 hsz hk => wpAny_pyIter_zip hz ?_
      have I2 : Inv X pins σ H1 { s1 with heap := h' } := I1.kept (t' := s1.toks) hk
      refine ⟨s1.heap.objs.size + 4, [s1.heap.objs.size + 4, s1.heap.objs.size + 2, s1.heap.objs.size + 3, s1.heap.objs.size, s1.heap.objs.size + 1], _, _, H1, rfl, I2, turn_zipX (sep_new s1.heap.objs.size), ⟨hz, hTI, ⟨_, _, hTO⟩, ⟨_, h1, rfl, rfl⟩, ⟨_, h2, rfl, rfl⟩⟩, fun c hcm => ?_, q⟩
      have e' : c = s1.heap.objs.size + 4 ∨ c = s1.heap.objs.size + 2 ∨ c = s1.heap.objs.size + 3 ∨ c = s1.heap.objs.size ∨ c = s1.heap.objs.size + 1 := by simpa using hcm
      have hle : s1.heap.objs.size ≤ c := by
        rcases e' with z | z | z | z | z
        · rw [z]; exact Nat.le_add_right _ _
        · rw [z]; exact Nat.le_add_right _ _
        · rw [z]; exact Nat.le_add_right _ _
        · rw [z]; exact Nat.le_refl _
        · rw [z]; exact Nat.le_add_right _ _
      exact I1.fpOk hle (I1.hok.fresh hle)
theorem walk_zipX {x y : Str} : Walk (Itx x y) (min x.cps.size y.cps.size) (fun _ => True) (Itx x y).yld :=
  ⟨fun i _ hi _ => ⟨by omega, by omega⟩, fun _ _ => rfl, fun _ _ _ _ _ _ y => y⟩
end ZX
/-! list(text); text[::-1] as a text of the same length -/
namespace R1
open PySem PySem.Spec PyProof.Rows L2
theorem texts_in : ∀ l : List Value, (∀ v ∈ l, ∃ z t, v = .str z t) → ∃ ss : List Str, Vals (ss.map V.str) l
  | [], _ => ⟨[], .nil⟩
  | v :: l, h => by
    obtain ⟨ss, r⟩ := texts_in l fun u hu => h u (List.mem_cons_of_mem _ hu)
    obtain ⟨z, t, rfl⟩ := h v List.mem_cons_self
    exact ⟨z :: ss, .cons ⟨t, rfl⟩ r⟩
section
variable {X : Cx}
theorem cr_listT (hc : X.calm = true) : CallR X (.type "list") (fun xs H Q => ∃ x : Str, xs = [.str x] ∧ x.length ≤ sizeLine ∧ ∀ p (ss : List Str), H p = none → Q (.ref p) (upd H p (.lst (ss.map V.str)))) := by
  intro pins s σ H xs us Q I r h
  obtain ⟨x, rfl, hb, q⟩ := h
  obtain ⟨t, rfl⟩ : ∃ t, us = [Value.str x t] := by
    cases r with
    | cons r1 r2 =>
      cases r2
      obtain ⟨t, rfl⟩ := r1
      exact ⟨t, rfl⟩
  refine call_list_str (I.ok.hd hc) x t (hn := hb) fun h' tk acc c hk hS hacc => ?_
  obtain ⟨ss, rv⟩ := texts_in acc.toList fun v hv => by
    obtain ⟨j, hj⟩ := List.getElem?_of_mem hv
    obtain ⟨c, u, _, e⟩ := hacc.2 j v (by simpa using hj)
    exact ⟨_, u, e⟩
  have hl : (ss.map V.str).length ≤ sizeLine := by
    rw [rv.length, Array.length_toList, hacc.1]
    exact hb
  exact ⟨.ref s.heap.objs.size, upd H s.heap.objs.size (.lst (ss.map V.str)), I.laid (t' := tk) hk (Nat.le_refl _) ⟨hl, acc.toList, c, rv, hS⟩, rfl, q _ ss (I.hok.fresh (Nat.le_refl _))⟩
def tRevT (te : TE) : TE := fun σ H Q => te σ H fun x H1 => ∃ z : Str, x = .str z ∧ z.length ≤ sizeLine ∧ ∀ y : Str, y.length ≤ z.length → (∀ c ∈ y.cps.toList, c ∈ z.cps.toList) → Q (.str y) H1
theorem pe_revT {e : Expr} {te : TE} {k : Nat} {p1 p2 p3 pos : Pos} (he : PE X e te) : PE X (.Subscript e (.Slice none none (some (.UnaryOp .USub (.Constant (.int 1) k p1) p2)) p3) pos) (tRevT te) := by
  refine ⟨fun pins s σ H Q I h => ?_⟩
  refine Subscript_ (thn (he.run pins s σ H _ I h) fun v s1 ⟨x, H1, I1, r1, q1⟩ => ?_)
  obtain ⟨z, ex, hz, q⟩ := q1
  subst ex
  obtain ⟨t, rfl⟩ := r1
  have hst : PO X (some (.UnaryOp .USub (.Constant (.int 1) k p1) p2)) (tPart (tUn (rU fun i => .int (-i)) (tC (.int 1)))) := po_some (pe_un un_neg pe_int)
  refine wpAny_Slice (thn (po_none.run pins s1 σ H1 (fun o H2 => o = none ∧ H2 = H1) I1 ⟨rfl, rfl⟩) fun vl s2 ⟨l, H2, I2, pl, el, e2⟩ => ?_)
  subst el e2
  refine thn (po_none.run pins s2 σ H2 (fun o H3 => o = none ∧ H3 = H2) I2 ⟨rfl, rfl⟩) fun vu s3 ⟨u, H3, I3, pu, eu, e3⟩ => ?_
  subst eu e3
  refine thn (hst.run pins s3 σ H3 (fun o H4 => o = some (-1) ∧ H4 = H3) I3 ⟨1, rfl, -1, rfl, rfl, rfl⟩) fun vs s4 ⟨o, H4, I4, ps, eo, e4⟩ => ?_
  subst eo e4
  obtain ⟨l1, rfl, el⟩ := IsPart.raw pl
  obtain ⟨u1, rfl, eu⟩ := IsPart.raw pu
  obtain ⟨st1, rfl, es⟩ := IsPart.raw ps
  have I5 : Inv X pins σ H4 { s4 with heap := s4.heap.push { cls := .type "slice", data := .fields #[partValue l1, partValue u1, partValue st1] } } := I4.kept (t' := s4.toks) fun b ob q => Heap.get?_push_of_some _ q
  show wpAny (model X.prog X.w) X.A (subscriptTail e (.Slice none none (some (.UnaryOp .USub (.Constant (.int 1) k p1) p2)) p3) (.str z t) (.ref s4.heap.objs.size)) (EP X pins σ Q) X.xe { s4 with heap := s4.heap.push { cls := .type "slice", data := .fields #[partValue l1, partValue u1, partValue st1] } }
  refine tail_any (ops := [.str z t, .ref s4.heap.objs.size]) (typeIs_str _ _ _) (F.slot_str_getitem.lookup) ?_ (by with_unfolding_all rfl)
  refine wpAny_getItem_str_slice (l := l1) (u := u1) (st := st1) ⟨_, Heap.get?_push_size _ rfl, rfl, rfl⟩ (by rw [es]; rfl) ?_
  have e0 : sliceMade z t l1 u1 st1 = .str ⟨(((List.range z.length).map fun k => z.length - 1 - k).filterMap (z.cps[·]?)).toArray⟩ := by
    unfold sliceMade slicePicked
    rw [el, eu, es]
    show (if ((-1 : Int) == 1 && _) = true then _ else _) = _
    rw [if_neg (by simp)]
    show Made.str ⟨((sliceRange ((z.length : Int) - 1) (-1) (-1)).filterMap (z.cps[·]?)).toArray⟩ = _
    rw [PySem.W.krv_sliceRange]
  rw [e0]
  have hl : (⟨(((List.range z.length).map fun k => z.length - 1 - k).filterMap (z.cps[·]?)).toArray⟩ : Str).length ≤ z.length := by
    show (((List.range z.length).map fun k => z.length - 1 - k).filterMap (z.cps[·]?)).toArray.size ≤ _
    rw [List.size_toArray]
    refine Nat.le_trans (List.length_filterMap_le _ _) ?_
    rw [List.length_map, List.length_range]
    exact Nat.le_refl _
  have hm : ∀ c ∈ (⟨(((List.range z.length).map fun k => z.length - 1 - k).filterMap (z.cps[·]?)).toArray⟩ : Str).cps.toList, c ∈ z.cps.toList := fun c hc => by
    have hc' : c ∈ ((List.range z.length).map fun k => z.length - 1 - k).filterMap (z.cps[·]?) := by simpa using hc
    obtain ⟨i, _, hi⟩ := List.mem_filterMap.mp hc'
    rw [← Array.getElem?_toList] at hi
    exact List.mem_of_getElem? hi
  exact ⟨Nat.le_trans hl hz, .str _, H4, I5.tok _, ⟨_, rfl⟩, q _ hl hm⟩
end
end R1
/-! tuple[::-1] -/
namespace RV
open PySem PySem.Spec PyProof.Rows L2 HT
section
variable {prog : Program} {w : World} {A : Around} {E : Value → Shared → Prop} {s : Shared}
theorem adjust_rev (n : Nat) : Builtin.Slice.sliceAdjust none none (-1) (n : Int) = ((n : Int) - 1, -1) := by
  unfold Builtin.Slice.sliceAdjust
  have h1 : (-1 : Int) < 0 := by omega
  simp only [h1, if_true]
theorem places_rev (n : Nat) : Builtin.Slice.slicePlaces ((n : Int) - 1) (-1) (-1) = n := by
  unfold Builtin.Slice.slicePlaces
  have h1 : ¬ ((-1 : Int) > 0) := by omega
  rw [if_neg h1]
  have h2 : -(-1 : Int) = 1 := by omega
  rw [h2, Int.ediv_one]
  split <;> omega
theorem applied_rev {sl : Addr} {vl vu vs : Value} {n : Nat} {Q : Int × Int × Nat → Shared → Prop} (hs : s.heap.IsSliceOf sl vl vu vs) (pl : IsPart vl none) (pu : IsPart vu none) (ps : IsPart vs (some (-1)))
    (h : Q ((n : Int) - 1, -1, n) s) : wpAny (model prog w) A (Builtin.Slice.sliceApplied (.ref sl) (pure (n : Int))) Q E s := by
  obtain ⟨os, hos, hcs, hds⟩ := id hs
  unfold Builtin.Slice.sliceApplied Builtin.Slice.sliceFields
  refine wpAny_bind (wpAny_bind (wpAny_field hos hds (x := vl) rfl (wpAny_bind (wpAny_field hos hds (x := vu) rfl (wpAny_bind (wpAny_field hos hds (x := vs) rfl (wpAny_pure ?_)))))))
  refine wpAny_bind (slicePart_ ps ?_)
  show wpAny _ _ (if ((-1 : Int) == 0) = true then _ else _) _ _ s
  rw [if_neg (by decide)]
  refine wpAny_bind (slicePart_ pl (wpAny_bind (slicePart_ pu (wpAny_bind (wpAny_pure ?_)))))
  show wpAny _ _ (match Builtin.Slice.sliceAdjust none none (-1) (n : Int) with | (lo, hi) => pure (lo, (-1 : Int), Builtin.Slice.slicePlaces lo hi (-1))) _ _ s
  rw [adjust_rev n]
  show wpAny _ _ (pure ((n : Int) - 1, (-1 : Int), Builtin.Slice.slicePlaces ((n : Int) - 1) (-1) (-1))) _ _ s
  rw [places_rev]
  exact wpAny_pure h
theorem pick_rev (xs : Array Value) : ((List.range xs.size).filterMap fun (m : Nat) => xs[(((xs.size : Int) - 1) + (m : Int) * (-1)).toNat]?).toArray = xs.toList.reverse.toArray := by
  have e : (List.range xs.size).filterMap (fun (m : Nat) => xs[(((xs.size : Int) - 1) + (m : Int) * (-1)).toNat]?) = ((List.range xs.size).map fun k => xs.size - 1 - k).filterMap (xs[·]?) := by
    rw [List.filterMap_map]
    congr 1
    funext m
    have : (((xs.size : Int) - 1) + (m : Int) * (-1)).toNat = xs.size - 1 - m := by omega
    rw [this]
    rfl
  rw [e, PySem.W.krv_range, List.filterMap_reverse, PySem.W.krv_all]
theorem getItem_tuple_rev {t sl : Addr} {items : Array Value} {vl vu vs : Value} {Q : Value → Shared → Prop} (ht : IsTup s.heap t items) (hs : s.heap.IsSliceOf sl vl vu vs) (pl : IsPart vl none) (pu : IsPart vu none) (ps : IsPart vs (some (-1)))
    (h : Q (.ref s.heap.objs.size) { s with heap := s.heap.push { cls := .type "tuple", data := .seq items.toList.reverse.toArray } })
    (hsz : items.size ≤ sizeLine) : wpAny (model prog w) A (getItem (.ref t) (.ref sl)) Q E s := by
  have htake : sizeOk (.seq items.toList.reverse.toArray) := by
    show items.toList.reverse.toArray.size ≤ sizeLine
    rw [List.size_toArray, List.length_reverse, Array.length_toList]
    exact hsz
  obtain ⟨os, hos, hcs, hds⟩ := id hs
  have hTs : s.TypeIs (.ref sl) "slice" := ⟨os, hos, hcs⟩
  unfold getItem
  try with_reducible refine wpAny_holding ?_
  first | refine wpAny_bind (wpAny_pure ?_) | skip
  refine wpAny_bind (wpAny_sequenceKey ht.typeIs (by decide) ?_)
  refine wpAny_bind (wpAny_callSpecial?_slot (name := Str.ofString "__getitem__") ht.typeIs PyProof.Rows.slot_tuple_getitem
    (wpAny_call_entry PyProof.Rows.slot_tuple_getitem ht.typeIs entry_tuple_getitem ?_ (args_tuple_getitem _ _)))
  show wpAny _ _ (Builtin.Tuple.tupleItemsOf (.ref t) >>= _) _ _ s
  refine wpAny_bind (tupleItemsOf_ ht ?_)
  refine wpAny_bind (wpAny_typeOf hTs ?_)
  rw [if_pos (by decide)]
  refine wpAny_bind (applied_rev hs pl pu ps ?_)
  have hno : ¬ ((((items.size : Int) - 1) == 0 && (-1 : Int) == 1 && items.size == items.size) = true) := by
    intro q
    rw [Bool.and_eq_true, Bool.and_eq_true] at q
    exact absurd q.1.2 (by decide)
  show wpAny _ _ (if (((items.size : Int) - 1) == 0 && (-1 : Int) == 1 && items.size == items.size) = true then _ else _) _ _ s
  rw [if_neg hno, pick_rev]
  first
    | exact wpAny_bind (m := Builtin.Tuple.tupleExact _) (wpAny_newObj_type (wpAny_pure ⟨_, rfl, wpAny_pure h⟩) htake)
    | exact wpAny_bind (m := Builtin.Tuple.tupleExact _) (wpAny_newObj_type (wpAny_bind (wpAny_pure (wpAny_pure ⟨_, rfl, wpAny_pure h⟩))) htake)
    | exact wpAny_bind (wpAny_bind (m := Builtin.Tuple.tupleExact _) (wpAny_newObj_type (wpAny_pure (wpAny_pure ⟨_, rfl, wpAny_pure h⟩)) htake))
    | exact wpAny_bind (wpAny_bind (m := Builtin.Tuple.tupleExact _) (wpAny_newObj_type (wpAny_pure ⟨_, rfl, wpAny_pure h⟩) htake))
end
section
variable {X : Cx}
def tRevQ (K : PySem.W.Frag) (te : TE) : TE := fun σ H Q => te σ H fun x H1 => ∃ a xs, x = .ref a ∧ SqT K H1 a xs ∧ ∀ p, H1 p = none → Q (.ref p) (upd H1 p (.tup xs.reverse))
theorem pe_revQ {e : Expr} {te : TE} {k : Nat} {p1 p2 p3 pos : Pos} (he : PE X e te) : PE X (.Subscript e (.Slice none none (some (.UnaryOp .USub (.Constant (.int 1) k p1) p2)) p3) pos) (tRevQ X.K te) := by
  refine ⟨fun pins s σ H Q I h => ?_⟩
  refine Subscript_ (thn (he.run pins s σ H _ I h) fun v s1 ⟨x, H1, I1, r1, q1⟩ => ?_)
  obtain ⟨a, xs, ex, hx, q⟩ := q1
  subst ex
  cases r1
  have hst : PO X (some (.UnaryOp .USub (.Constant (.int 1) k p1) p2)) (tPart (tUn (rU fun i => .int (-i)) (tC (.int 1)))) := po_some (pe_un un_neg pe_int)
  refine wpAny_Slice (thn (po_none.run pins s1 σ H1 (fun o H2 => o = none ∧ H2 = H1) I1 ⟨rfl, rfl⟩) fun vl s2 ⟨l, H2, I2, pl, el, e2⟩ => ?_)
  subst el e2
  refine thn (po_none.run pins s2 σ H2 (fun o H3 => o = none ∧ H3 = H2) I2 ⟨rfl, rfl⟩) fun vu s3 ⟨u, H3, I3, pu, eu, e3⟩ => ?_
  subst eu e3
  refine thn (hst.run pins s3 σ H3 (fun o H4 => o = some (-1) ∧ H4 = H3) I3 ⟨1, rfl, -1, rfl, rfl, rfl⟩) fun vs s4 ⟨o, H4, I4, ps, eo, e4⟩ => ?_
  subst eo e4
  have I5 : Inv X pins σ H4 { s4 with heap := s4.heap.push { cls := .type "slice", data := .fields #[vl, vu, vs] } } := I4.kept (t' := s4.toks) fun b ob q => Heap.get?_push_of_some _ q
  obtain ⟨its, r, ht, hz⟩ := I5.tuple hx
  have hlen := r.length
  show wpAny (model X.prog X.w) X.A (subscriptTail e (.Slice none none (some (.UnaryOp .USub (.Constant (.int 1) k p1) p2)) p3) (.ref a) (.ref s4.heap.objs.size)) (EP X pins σ Q) X.xe { s4 with heap := s4.heap.push { cls := .type "slice", data := .fields #[vl, vu, vs] } }
  refine tail_any (ops := [.ref a, .ref s4.heap.objs.size]) ht.typeIs (PyProof.Rows.slot_tuple_getitem.lookup) ?_ (by with_unfolding_all rfl)
  refine getItem_tuple_rev ht (Heap.IsSliceOf.new _ vl vu vs) pl pu ps ?_ (by rw [List.size_toArray]; omega)
  refine ⟨.ref _, _, I5.laid (t' := s4.toks) (o := .tup xs.reverse) (fun b ob q => Heap.get?_push_of_some _ q) (Nat.le_refl _) ?_, rfl, q _ (I5.hok.fresh (Nat.le_refl _))⟩
  exact ⟨by rw [List.length_reverse]; exact hz, _, r.reverse, IsTup.new _ _⟩
end
end RV
/-! two fors in a comprehension, by walks -/
namespace L2
open PySem PySem.Spec PyProof.Rows
set_option autoImplicit false
/-- the second for -/
def Inn (J1 : It) (g1 : TG) (tt1 : TT) (te : TE) (vs1 : List Nat) (D : Addr) (σ2 : St) (H4 : Hp) (Nx : Hp → Prop) : Prop :=
  ∃ W1 : Nat → Nat → Hp → Prop, (∃ m, W1 0 m H4) ∧ ∀ j k H, W1 j k H →
      (J1.stop j H ∧ Nx H) ∨ (J1.go j H ∧ ∃ Nx1 : Hp → Prop, (∀ H', Nx1 H' → ∃ k', k' < k ∧ W1 (j + 1) k' H') ∧ ∀ x H', J1.yld j H x H' → g1 x (wipe σ2 vs1) H' fun σ3 H5 => wipe σ3 vs1 = wipe σ2 vs1 ∧ tt1 σ3 H5 fun b H6 =>
        if b = true then te σ3 H6 fun y H7 => ∃ acc, H7 D = some (.lst acc) ∧ acc.length < sizeLine ∧ Nx1 (upd H7 D (.lst (acc ++ [y]))) else Nx1 H6)
section
variable {J J1 : It} {n n1 : Nat} {G G1 : Hp → Prop} {Y Y1 : Nat → Hp → V → Hp → Prop}
theorem inn_it (w : Walk J1 n1 G1 Y1) {g1 : TG} {tt1 : TT} {te : TE} {vs1 : List Nat} {D : Addr} {σ2 : St} {H4 : Hp} {Nx : Hp → Prop} (Pv : Nat → Hp → Prop) (h0 : Pv 0 H4) (hG : ∀ i H, i ≤ n1 → Pv i H → G1 H)
    (hs : ∀ j x H H', j < n1 → Pv j H → Y1 j H x H' → g1 x (wipe σ2 vs1) H' fun σ3 H5 => wipe σ3 vs1 = wipe σ2 vs1 ∧ tt1 σ3 H5 fun b H6 =>
        if b = true then te σ3 H6 fun y H7 => ∃ acc, H7 D = some (.lst acc) ∧ acc.length < sizeLine ∧ Pv (j + 1) (upd H7 D (.lst (acc ++ [y]))) else Pv (j + 1) H6)
    (hd : ∀ H, Pv n1 H → Nx H) : Inn J1 g1 tt1 te vs1 D σ2 H4 Nx := by
  refine ⟨fun i m H => m = n1 - i ∧ i ≤ n1 ∧ Pv i H, ⟨n1, by simp, Nat.zero_le _, h0⟩, ?_⟩
  rintro i m H ⟨rfl, hi, p⟩
  have q := hG i H hi p
  by_cases hlt : i < n1
  · refine .inr ⟨w.goes i H hlt q, Pv (i + 1), fun H' p' => ⟨n1 - (i + 1), by omega, rfl, hlt, p'⟩, fun x H' y => hs i x H H' hlt p (w.yields i H x H' hlt q y)⟩
  · have e : i = n1 := by omega
    subst e
    exact .inl ⟨w.stops H q, hd H p⟩
theorem lc2_it (w : Walk J n G Y) {g : TG} {tt : TT} {wi1 : TI} {g1 : TG} {tt1 : TT} {te : TE} {vs vs1 : List Nat} {σ : St} {H1 : Hp} {D : Addr} {Qd : Hp → Prop} (Pv : Nat → Hp → Prop) (h0 : Pv 0 (upd H1 D (.lst []))) (hG : ∀ i H, i ≤ n → Pv i H → G H)
    (hs : ∀ i x H H', i < n → Pv i H → Y i H x H' → g x (wipe σ vs) H' fun σ2 H2 => wipe σ2 vs = wipe σ vs ∧ tt σ2 H2 fun b H3 =>
      if b = true then wi1 σ2 H3 fun J1 H4 => Inn J1 g1 tt1 te vs1 D σ2 H4 (Pv (i + 1)) else Pv (i + 1) H3) (hd : ∀ H, Pv n H → Qd H) :
    ∃ W : Nat → Nat → Hp → Prop, (∃ m, W 0 m (upd H1 D (.lst []))) ∧ ∀ i m H, W i m H →
  (J.stop i H ∧ Qd H) ∨ (J.go i H ∧ ∃ Nx : Hp → Prop, (∀ H', Nx H' → ∃ m', m' < m ∧ W (i + 1) m' H') ∧ ∀ x H', J.yld i H x H' → g x (wipe σ vs) H' fun σ2 H2 => wipe σ2 vs = wipe σ vs ∧ tt σ2 H2 fun b H3 =>
    if b = true then wi1 σ2 H3 fun J1 H4 => ∃ W1 : Nat → Nat → Hp → Prop, (∃ m, W1 0 m H4) ∧ ∀ j k H, W1 j k H →
      (J1.stop j H ∧ Nx H) ∨ (J1.go j H ∧ ∃ Nx1 : Hp → Prop, (∀ H', Nx1 H' → ∃ k', k' < k ∧ W1 (j + 1) k' H') ∧ ∀ x H', J1.yld j H x H' → g1 x (wipe σ2 vs1) H' fun σ3 H5 => wipe σ3 vs1 = wipe σ2 vs1 ∧ tt1 σ3 H5 fun b H6 =>
        if b = true then te σ3 H6 fun y H7 => ∃ acc, H7 D = some (.lst acc) ∧ acc.length < sizeLine ∧ Nx1 (upd H7 D (.lst (acc ++ [y]))) else Nx1 H6)
    else Nx H3) := by
  refine ⟨fun i m H => m = n - i ∧ i ≤ n ∧ Pv i H, ⟨n, by simp, Nat.zero_le _, h0⟩, ?_⟩
  rintro i m H ⟨rfl, hi, p⟩
  have q := hG i H hi p
  by_cases hlt : i < n
  · refine .inr ⟨w.goes i H hlt q, Pv (i + 1), fun H' p' => ⟨n - (i + 1), by omega, rfl, hlt, p'⟩, fun x H' y => hs i x H H' hlt p (w.yields i H x H' hlt q y)⟩
  · have e : i = n := by omega
    subst e
    exact .inl ⟨w.stops H q, hd H p⟩
end
end L2
/-! dicts whose keys are tuples at any depth (to eight): of numbers, texts, None and such tuples -/
namespace ND
open PySem PySem.Spec PyProof.Rows L2
set_option autoImplicit false
/-! ### keys -/
mutual
inductive NK (K : PySem.W.Frag) (H : Hp) : NestedKey → V → Prop
  | none : NK K H .none .non
  | num (i : Int) : NK K H (.num i) (.int i)
  | text (x : Str) : NK K H (.text x) (.str x)
  | tup {a : Addr} {vs : List V} {ks : List NestedKey} : SqT K H a vs → NKs K H ks vs → NK K H (.tup ks) (.ref a)
inductive NKs (K : PySem.W.Frag) (H : Hp) : List NestedKey → List V → Prop
  | nil : NKs K H [] []
  | cons {k : NestedKey} {v : V} {ks : List NestedKey} {vs : List V} : NK K H k v → NKs K H ks vs → NKs K H (k :: ks) (v :: vs)
end
mutual
theorem NK.mono {K : PySem.W.Frag} {H H' : Hp} (m : ∀ b xs, SqT K H b xs → SqT K H' b xs) : ∀ (k : NestedKey) (v : V), NK K H k v → NK K H' k v
  | .none, _, h => by cases h; exact .none
  | .num i, _, h => by cases h; exact .num i
  | .text x, _, h => by cases h; exact .text x
  | .tup ks, _, h => by
    cases h with
    | tup q r => exact .tup (m _ _ q) (NKs.mono m ks _ r)
theorem NKs.mono {K : PySem.W.Frag} {H H' : Hp} (m : ∀ b xs, SqT K H b xs → SqT K H' b xs) : ∀ (ks : List NestedKey) (vs : List V), NKs K H ks vs → NKs K H' ks vs
  | [], _, h => by cases h; exact .nil
  | k :: ks, _, h => by
    cases h with
    | cons a r => exact .cons (NK.mono m k _ a) (NKs.mono m ks _ r)
end
section
variable {X : Cx} {pins : List (Addr × Obj)} {σ : L2.St} {H : Hp} {s : Shared}
mutual
theorem nk_is (I : Inv X pins σ H s) : ∀ (k : NestedKey) (v : V) (u : Value), NK X.K H k v → RelV v u → NestedIs s.heap k u
  | .none, _, u, h, r => by
    cases h
    obtain rfl : u = Value.none := r
    exact .none
  | .num i, _, u, h, r => by
    cases h
    obtain ⟨t, rfl⟩ : ∃ t, u = Value.int i t := r
    exact .int i t
  | .text x, _, u, h, r => by
    cases h
    obtain ⟨t, rfl⟩ : ∃ t, u = Value.str x t := r
    exact .text x t
  | .tup ks, _, u, h, r => by
    cases h with
    | @tup a vs _ q rest =>
      obtain rfl : u = Value.ref a := r
      obtain ⟨its, rv, ⟨o, ho, hc, n, hd⟩, _⟩ := I.tuple q
      exact .tup ho hc hd (by simpa using nks_is I ks vs its rest rv)
theorem nks_is (I : Inv X pins σ H s) : ∀ (ks : List NestedKey) (vs : List V) (us : List Value), NKs X.K H ks vs → Vals vs us → NestedAll s.heap ks us
  | [], _, us, h, r => by
    cases h
    cases r
    exact .nil
  | k :: ks, _, us, h, r => by
    cases h with
    | cons a rest =>
      cases r with
      | cons ra rr => exact .cons (nk_is I k _ _ a ra) (nks_is I ks _ _ rest rr)
end
end
/-! ### the dict -/
abbrev Ent : Type := NestedKey × Addr × V
abbrev Raw : Type := NestedKey × Addr × Value
def KN : List Ent → List Raw → Prop := Paired fun (p : Ent) (q : Raw) => p.1 = q.1 ∧ p.2.1 = q.2.1 ∧ RelV p.2.2 q.2.2
def DO (P : Program) (w : World) (d : Addr) (kvs : List Ent) : HO := .ext fun h => (d == sysModules) = false ∧ kvs.length ≤ sizeLine ∧ ∃ xs : List Raw, KN kvs xs ∧
  ∃ (o : Obj) (es : Array DictEntry) (ep : Nat), h.get? d = some o ∧ o.ExactDict ∧ o.data = .dict es ep ∧ es.toList = xs.map (entryOfKey (nestedKind P w)) ∧ (xs.map (·.1)).Nodup
def KOks (K : PySem.W.Frag) (H : Hp) (kvs : List Ent) : Prop := ∀ p ∈ kvs, NK K H p.1 (.ref p.2.1) ∧ p.1.depth ≤ 8
theorem KOks.mono {K : PySem.W.Frag} {H H' : Hp} {kvs : List Ent} (h : KOks K H kvs) (m : ∀ b xs, SqT K H b xs → SqT K H' b xs) : KOks K H' kvs := fun p hp => ⟨NK.mono m _ _ (h p hp).1, (h p hp).2⟩
def valN (kvs : List Ent) (k : NestedKey) : Option V := (kvs.find? fun p => decide (p.1 = k)).map (·.2.2)
def setN (k : NestedKey) (v : V) (p : Ent) : Ent := if p.1 = k then (p.1, p.2.1, v) else p
def putN (kvs : List Ent) (k : NestedKey) (b : Addr) (v : V) : List Ent := if (valN kvs k).isSome = true then kvs.map (setN k v) else kvs ++ [(k, b, v)]
theorem KN.len : ∀ {kvs : List Ent} {xs : List Raw}, KN kvs xs → kvs.length = xs.length
  | _, _, .nil => rfl
  | _, _, .cons _ r => by rw [List.length_cons, List.length_cons, KN.len r]
theorem KN.val {k : NestedKey} : ∀ {kvs : List Ent} {xs : List Raw}, KN kvs xs → RelO (valN kvs k) ((atKey xs k).map (·.2))
  | _, _, .nil => by exact True.intro
  | _, _, @Paired.cons _ _ _ p q ps qs h r => by
    have ih := KN.val (k := k) r
    unfold valN atKey at ih ⊢
    by_cases c : p.1 = k
    · rw [List.find?_cons_of_pos (by exact decide_eq_true c), List.find?_cons_of_pos (by rw [← h.1]; exact decide_eq_true c)]
      exact h.2.2
    · rw [List.find?_cons_of_neg (by simpa using c), List.find?_cons_of_neg (by rw [← h.1]; simpa using c)]
      exact ih
theorem KN.rep {k : NestedKey} {v : V} {r : Value} (rv : RelV v r) : ∀ {kvs : List Ent} {xs : List Raw}, KN kvs xs → KN (kvs.map (setN k v)) (xs.map (putAt k r))
  | _, _, .nil => .nil
  | _, _, @Paired.cons _ _ _ p q ps qs h t => by
    refine .cons ?_ (KN.rep rv t)
    unfold setN putAt
    by_cases c : p.1 = k
    · rw [if_pos c, if_pos (by rw [← h.1]; exact c)]
      exact ⟨h.1, h.2.1, rv⟩
    · rw [if_neg c, if_neg (by rw [← h.1]; exact c)]
      exact h
theorem KN.snoc {p : Ent} {q : Raw} (h : p.1 = q.1 ∧ p.2.1 = q.2.1 ∧ RelV p.2.2 q.2.2) : ∀ {kvs : List Ent} {xs : List Raw}, KN kvs xs → KN (kvs ++ [p]) (xs ++ [q])
  | _, _, .nil => .cons h .nil
  | _, _, .cons a r => .cons a (KN.snoc h r)
theorem KN.put {k : NestedKey} {b : Addr} {v : V} {r : Value} (rv : RelV v r) {kvs : List Ent} {xs : List Raw} (h : KN kvs xs) : KN (putN kvs k b v) (storedH xs k b r) := by
  have e := (KN.val (k := k) h).isSome_eq
  rw [Option.isSome_map] at e
  unfold putN storedH
  rw [e]
  by_cases q : (atKey xs k).isSome = true
  · rw [if_pos q, if_pos q]
    exact h.rep rv
  · rw [if_neg q, if_neg q]
    exact h.snoc ⟨rfl, rfl, rv⟩
theorem putN_len (kvs : List Ent) (k : NestedKey) (b : Addr) (v : V) : (putN kvs k b v).length ≤ kvs.length + 1 := by
  unfold putN
  split
  · rw [List.length_map]
    omega
  · rw [List.length_append]
    exact Nat.le_refl _
theorem putN_ok {K : PySem.W.Frag} {H : Hp} {kvs : List Ent} {k : NestedKey} {b : Addr} {v : V} (h : KOks K H kvs) (hk : NK K H k (.ref b)) (hd : k.depth ≤ 8) : KOks K H (putN kvs k b v) := by
  unfold putN
  split
  · intro p hp
    obtain ⟨q, hq, rfl⟩ := List.mem_map.mp hp
    unfold setN
    split
    · exact h q hq
    · exact h q hq
  · intro p hp
    rcases List.mem_append.mp hp with q | q
    · exact h p q
    · rw [List.mem_singleton.mp q]
      exact ⟨hk, hd⟩
theorem do_new {P : Program} {w : World} {H : Hp} {h : Heap} {d : Addr} {kvs : List Ent} {xs : List Raw} (hs : (d == sysModules) = false) (hl : kvs.length ≤ sizeLine) (r : KN kvs xs) (dd : h.DictOfH (nestedKind P w) d xs) : ObjOk P w H h d (DO P w d kvs) := by
  obtain ⟨o, es, ep, h1, h2, h3, h4, _, h5⟩ := dd
  refine ⟨⟨hs, hl, xs, r, o, es, ep, h1, h2, h3, h4, h5⟩, ⟨o, h1⟩, ?_⟩
  rintro g1 g2 ⟨hs, hl, xs, r, o, es, ep, h1, h2⟩ kk
  exact ⟨hs, hl, xs, r, o, es, ep, kk o h1, h2⟩
section
variable {X : Cx} {pins : List (Addr × Obj)} {σ : L2.St} {H : Hp} {s : Shared} {d b : Addr} {kvs : List Ent} {k : NestedKey} {A : Around} {E : Value → Shared → Prop}
theorem do_at (I : Inv X pins σ H s) (e : Rd H d (DO X.prog X.w d kvs)) (ko : KOks X.K H kvs) : (d == sysModules) = false ∧ kvs.length ≤ sizeLine ∧ ∃ xs : List Raw, KN kvs xs ∧ s.heap.DictOfH (nestedKind X.prog X.w) d xs := by
  obtain ⟨⟨hs, hl, xs, r, o, es, ep, h1, h2, h3, h4, h5⟩, _, _⟩ := e.ok I.hok
  refine ⟨hs, hl, xs, r, o, es, ep, h1, h2, h3, h4, ?_, h5⟩
  have all : ∀ {l : List Ent} {m : List Raw}, KN l m → KOks X.K H l → ∀ x ∈ m, (nestedKind X.prog X.w).is s.heap x.1 x.2.1 := by
    intro l m q
    induction q with
    | nil => intro _ x hx; exact nomatch hx
    | @cons p q ps qs hq t ih =>
      intro ok x hx
      rcases List.mem_cons.mp hx with z | z
      · subst z
        obtain ⟨h1, h2⟩ := ok p List.mem_cons_self
        refine ⟨?_, by rw [← hq.1]; exact h2⟩
        rw [← hq.1, ← hq.2.1]
        exact nk_is I _ _ _ h1 rfl
      · exact ih (fun p hp => ok p (List.mem_cons_of_mem _ hp)) x z
  exact all r ko
theorem key_at (I : Inv X pins σ H s) (hk : NK X.K H k (.ref b)) (hd : k.depth ≤ 8) : (nestedKind X.prog X.w).is s.heap k b := ⟨nk_is I _ _ _ hk rfl, hd⟩
theorem room_at (hu : A.units + 9 < cLine) : (nestedKind X.prog X.w).room A.in1 := by
  show A.in1.units + 8 < cLine
  have : A.in1.units ≤ A.units + 1 := by first | exact Nat.le_refl _ | (unfold Around.in1; simp)
  omega
end
/-! ### rules -/
/-- {} -/
def tNewN (P : Program) (w : World) : TE := fun _ H Q => ∀ p, H p = none → Q (.ref p) (upd H p (DO P w p []))
theorem pe_dnewN {X : Cx} {pos : Pos} : PE X (.Dict [] [] pos) (tNewN X.prog X.w) := ⟨fun pins s σ H Q I h => by
  refine wpAny_Dict_empty ⟨.ref s.heap.objs.size, upd H s.heap.objs.size (DO X.prog X.w s.heap.objs.size []), ?_, rfl, h _ (I.hok.fresh (Nat.le_refl _))⟩
  refine I.laid (t' := s.toks) (fun _ _ q => Heap.get?_push_of_some _ q) (Nat.le_refl _) ?_
  exact do_new (xs := []) (beq_eq_false_iff_ne.mpr (Ne.symm (Nat.ne_of_lt I.big))) (Nat.zero_le _) .nil (Heap.DictOfH.new s.heap)⟩
/-- what is asked of a dict and a key -/
structure At (X : Cx) (H : Hp) (d b : Addr) (kvs : List Ent) (k : NestedKey) : Prop where
  dic : Rd H d (DO X.prog X.w d kvs)
  oks : KOks X.K H kvs
  key : NK X.K H k (.ref b)
  dep : k.depth ≤ 8
section
variable {X : Cx} {o i value e f : Expr} {td ty tv tx : TE} {pos pos' apos cpos : Pos}
def tGetN (X : Cx) (td ty : TE) : TE := fun σ H Q => td σ H fun x H1 => ty σ H1 fun y H2 => ∃ (d b : Addr) (kvs : List Ent) (k : NestedKey) (v : V), x = .ref d ∧ y = .ref b ∧ At X H2 d b kvs k ∧ valN kvs k = some v ∧ Q v H2
theorem pe_dgetN (hu : X.A.units + 9 < cLine) (ho : PE X o td) (hi : PE X i ty) (hs : NoSl i) : PE X (.Subscript o i pos) (tGetN X td ty) := by
  refine ⟨fun pins s σ H Q I h => ?_⟩
  refine subD_of PySem.F.slot_dict_getitem.lookup hs (thn (ho.run pins s σ H _ I h) fun u s1 ⟨x, H1, I1, rx, q1⟩ => thn (hi.run pins s1 σ H1 _ I1 q1) fun iv s2 ⟨y, H2, I2, ry, d, b, kvs, k, v, ex, ey, g, hv, q2⟩ => ?_)
  subst ex ey
  obtain rfl : u = Value.ref d := rx
  obtain rfl : iv = Value.ref b := ry
  obtain ⟨_, _, xs, r, dd⟩ := do_at I2 g.dic g.oks
  obtain ⟨w', hw, rw'⟩ := RelO.some_of (v := v) (o := (atKey xs k).map (·.2)) (by rw [← hv]; exact r.val)
  obtain ⟨p, hp, hp2⟩ := Option.map_eq_some_iff.mp hw
  refine ⟨dd.typeIs, wpAny_getItem_heap (room_at hu) (key_at I2 g.key g.dep) dd hp ?_⟩
  rw [hp2]
  exact ⟨v, H2, I2.tok _, rw', q2⟩
def rInN (X : Cx) (neg : Bool) : R2 := fun y x H Q => ∃ (d b : Addr) (kvs : List Ent) (k : NestedKey), x = .ref d ∧ y = .ref b ∧ At X H d b kvs k ∧ Q (.bl (if neg = true then !(valN kvs k).isSome else (valN kvs k).isSome)) H
theorem op_inN (hu : X.A.units + 9 < cLine) : OpR X (compareOp .In) (rInN X false) := by
  intro pins s σ H y x iv u Q I ry rx h
  obtain ⟨d, b, kvs, k, ex, ey, g, q⟩ := h
  subst ex ey
  obtain rfl : u = Value.ref d := rx
  obtain rfl : iv = Value.ref b := ry
  obtain ⟨hs, _, xs, r, dd⟩ := do_at I g.dic g.oks
  refine wpAny_in_heap (room_at hu) (key_at I g.key g.dep) hs dd ?_
  have z := (KN.val (k := k) r).isSome_eq
  rw [Option.isSome_map] at z
  exact ⟨.bl (valN kvs k).isSome, H, I.tok _, by rw [z]; rfl, q⟩
theorem op_notInN (hu : X.A.units + 9 < cLine) : OpR X (compareOp .NotIn) (rInN X true) := by
  intro pins s σ H y x iv u Q I ry rx h
  obtain ⟨d, b, kvs, k, ex, ey, g, q⟩ := h
  subst ex ey
  obtain rfl : u = Value.ref d := rx
  obtain rfl : iv = Value.ref b := ry
  obtain ⟨hs, _, xs, r, dd⟩ := do_at I g.dic g.oks
  refine wpAny_notIn_heap (room_at hu) (key_at I g.key g.dep) hs dd ?_
  have z := (KN.val (k := k) r).isSome_eq
  rw [Option.isSome_map] at z
  exact ⟨.bl (!(valN kvs k).isSome), H, I.tok _, by rw [z]; rfl, q⟩
def sPutN (X : Cx) (td ty tv : TE) : TS := fun D σ H => tv σ H fun v H1 => td σ H1 fun x H2 => ty σ H2 fun y H3 => ∃ (d b : Addr) (kvs : List Ent) (k : NestedKey), x = .ref d ∧ y = .ref b ∧ H3 d = some (DO X.prog X.w d kvs) ∧ KOks X.K H3 kvs ∧ NK X.K H3 k (.ref b) ∧ k.depth ≤ 8 ∧ kvs.length < sizeLine ∧
  D.nx σ (upd H3 d (DO X.prog X.w d (putN kvs k b v)))
theorem ps_dputN (hu : X.A.units + 9 < cLine) (ho : PE X o td) (hi : PE X i ty) (hv : PE X value tv) (hs : swapsWith value (some (.Subscript o i pos')) pos.line X.env = pure false) : PS X (.Assign [.Subscript o i pos'] value pos) (sPutN X td ty tv) := by
  refine ⟨fun pins s σ H D I h => ?_⟩
  refine wpAny_Assign_Subscript (thn (hv.run pins s σ H _ I h) fun r s1 ⟨v, H1, I1, rv, q1⟩ => thn (ho.run pins s1 σ H1 _ I1 q1) fun u s2 ⟨x, H2, I2, rx, q2⟩ => thn (hi.run pins s2 σ H2 _ I2 q2) fun iv s3 ⟨y, H3, I3, ry, d, b, kvs, k, ex, ey, hd, ok, hk, dp, hl, q3⟩ => ?_) hs
  subst ex ey
  obtain rfl : u = Value.ref d := rx
  obtain rfl : iv = Value.ref b := ry
  obtain ⟨h1, _, xs, rel, dd⟩ := do_at I3 (.inl hd) ok
  have hz : xs.length ≤ sizeLine := by
    rw [← rel.len]
    omega
  refine wpAny_setItem_heap (hsz := hz) (room_at hu) (key_at I3 hk dp) dd fun h' dd' same => ⟨σ, _, ?_, q3⟩
  have pl := putN_len kvs k b v
  have he : ∃ q, h'.get? d = some q := by
    obtain ⟨q, _, _, hq, _⟩ := dd'
    exact ⟨q, hq⟩
  exact d_write I3 (by rw [hd]; exact True.intro) same he (do_new h1 (by omega) (rel.put rv) dd')
def tSetdN (X : Cx) (td ty tx : TE) : TE := fun σ H Q => td σ H fun x H1 => ∃ d kvs0, x = .ref d ∧ H1 d = some (DO X.prog X.w d kvs0) ∧ KOks X.K H1 kvs0 ∧ ty σ H1 fun y H2 => tx σ H2 fun z H3 => ∃ (b : Addr) (kvs : List Ent) (k : NestedKey), y = .ref b ∧
  H3 d = some (DO X.prog X.w d kvs) ∧ KOks X.K H3 kvs ∧ NK X.K H3 k (.ref b) ∧ k.depth ≤ 8 ∧ kvs.length < sizeLine ∧ (∀ v, valN kvs k = some v → Q v H3) ∧ (valN kvs k = none → Q z (upd H3 d (DO X.prog X.w d (putN kvs k b z))))
theorem pe_dsetdN (hu : X.A.units + 9 < cLine) (ho : PE X o td) (he : PE X e ty) (hf : PE X f tx) (m : M2 X o "setdefault" apos e f cpos) : PE X (.Call (.Attribute o "setdefault" apos) [e, f] [] cpos) (tSetdN X td ty tx) := by
  refine ⟨fun pins s σ H Q I h => ?_⟩
  refine wpAny_Call_method m.base m.few m.line PySem.F.plainAttrs_dict PySem.F.slot_dict_setdefault PySem.F.type_dict_setdefault (thn (ho.run pins s σ H _ I h) fun u s1 ⟨x, H1, I1, rx, d, kvs0, ex, hd0, ok0, q1⟩ => ?_)
  subst ex
  obtain rfl : u = Value.ref d := rx
  obtain ⟨_, _, xs0, _, dd0⟩ := do_at I1 (.inl hd0) ok0
  refine ⟨dd0.typeIs, fun b0 q => ?_, ?_⟩
  · cases q
    obtain ⟨o0, _, _, z1, z2, _⟩ := dd0
    exact ⟨o0, z1, z2.2.1⟩
  rw [m.trees]
  refine Calls.callWith_builtin rfl (Calls.evalArgs_plain (Calls.spliced_cons (thn (he.run pins s1 σ H1 _ I1 q1) fun iv s2 ⟨y, H2, I2, ry, q2⟩ =>
    Calls.spliced_cons (thn (hf.run pins s2 σ H2 _ I2 q2) fun fv s3 ⟨z, H3, I3, rz, b, kvs, k, ey, hd, ok, hk, dp, hl, q3, q4⟩ => Calls.spliced_nil ?_))))
  subst ey
  obtain rfl : iv = Value.ref b := ry
  obtain ⟨h1, _, xs, rel, dd⟩ := do_at I3 (.inl hd) ok
  have hz : xs.length ≤ sizeLine := by
    rw [← rel.len]
    omega
  have rv := KN.val (k := k) rel
  refine call_setdefault_heap (hsz := hz) (room_at hu) (key_at I3 hk dp) h1 dd (fun p hp => ?_) fun hn h' dd' same => ?_
  · rw [hp] at rv
    cases hval : valN kvs k with
    | none => rw [hval] at rv; exact rv.elim
    | some v =>
      rw [hval] at rv
      exact ⟨v, H3, I3.tok _, rv, q3 v hval⟩
  · have hval : valN kvs k = none := by
      rw [hn] at rv
      cases hval : valN kvs k with
      | none => rfl
      | some v => rw [hval] at rv; exact rv.elim
    have pl := putN_len kvs k b z
    have he : ∃ q, h'.get? d = some q := by
      obtain ⟨q, _, _, hq, _⟩ := dd'
      exact ⟨q, hq⟩
    exact ⟨z, _, d_write I3 (by rw [hd]; exact True.intro) same he (do_new h1 (by omega) (rel.put rz) dd'), rz, q4 hval⟩
end
end ND
namespace ND
open PySem PySem.Spec PyProof.Rows L2
set_option autoImplicit false
/-! ### walking over the keys -/
/-- the keys of the locked dict, in their order: each its own tuple -/
def ItN (P : Program) (w : World) (d : Addr) (ob : Obj) (kvs : List Ent) : L2.It :=
  ⟨fun n H => H d = some (.frz ob (DO P w d kvs)) ∧ n < kvs.length, fun n H x H' => H' = H ∧ ∃ p, kvs[n]? = some p ∧ x = .ref p.2.1, fun n H => H d = some (.frz ob (DO P w d kvs)) ∧ kvs.length ≤ n⟩
theorem KN.get : ∀ {kvs : List Ent} {xs : List Raw}, KN kvs xs → ∀ (n : Nat) (p : Ent), kvs[n]? = some p → ∃ q, xs[n]? = some q ∧ p.1 = q.1 ∧ p.2.1 = q.2.1 ∧ RelV p.2.2 q.2.2
  | _, _, .nil, n, p, h => by simp at h
  | _, _, .cons a r, 0, p, h => by
    have e := Option.some.inj h
    subst e
    exact ⟨_, rfl, a⟩
  | _, _, .cons a r, n + 1, p, h => KN.get r n p h
theorem locked_at {X : Cx} {pins : List (Addr × Obj)} {σ : L2.St} {H : Hp} {s : Shared} {d : Addr} {ob : Obj} {kvs : List Ent} (I : Inv X pins σ H s) (h : H d = some (.frz ob (DO X.prog X.w d kvs))) :
    (d == sysModules) = false ∧ s.heap.get? d = some ob ∧ ob.ExactDict ∧ ∃ (es : Array DictEntry) (ep : Nat), ob.data = .dict es ep ∧ es.size = kvs.length ∧
      ∀ (n : Nat) (p : Ent), kvs[n]? = some p → ∃ en : DictEntry, es[n]? = some en ∧ en.key = .ref p.2.1 := by
  obtain ⟨at1, ⟨hs, _, xs, rel, o1, es, ep, at2, ex, dt, he, _⟩, _⟩ := I.hok d _ h
  rw [at1] at at2
  cases at2
  refine ⟨hs, at1, ex, es, ep, dt, ?_, fun n p hp => ?_⟩
  · rw [size_of_entries he, rel.len]
  · obtain ⟨q, hq, _, e2, _⟩ := KN.get rel n p hp
    have z := entry_at he n
    rw [hq] at z
    exact ⟨_, z, by rw [e2]; rfl⟩
theorem same_data {ob : Obj} {es es' : Array DictEntry} {ep ep' : Nat} (h : ob.data = .dict es ep) (h' : ob.data = .dict es' ep') : es' = es ∧ ep' = ep := by
  rw [h'] at h
  cases h
  exact ⟨rfl, rfl⟩
theorem turn_keysN {P : Program} {w : World} {K : PySem.W.Frag} {tg : Expr} {d : Addr} {ob : Obj} {es : Array DictEntry} {ep : Nat} {kvs : List Ent} (itr : Addr) (hob : ob.data = .dict es ep) : Turn P w K tg (ItN P w d ob kvs) [itr] itr (fun n h => h.IsKeyIter itr d n kvs.length ep) where
  mem := by simp
  obj := fun n h st b hb => by
    obtain rfl : b = itr := by simpa using hb
    obtain ⟨oi, z, _, dd⟩ := st
    exact ⟨oi, z, fun v q => by rw [dd] at q; cases q⟩
  keep := fun n h h' st kk => st.at fun oi z => kk itr (by simp) oi z
  item := by
    intro X hP hw hK hc n pins s σ H E I hf st hg
    subst hP hw hK
    obtain ⟨hd, hn⟩ := hg
    obtain ⟨g0, g1, g2, g3, g4, g5⟩ := hf itr (by simp)
    obtain ⟨_, atd, _, es', ep', dt', sz, ent⟩ := locked_at I hd
    obtain ⟨rfl, rfl⟩ := same_data hob dt'
    have hp : kvs[n]? = some kvs[n] := List.getElem?_eq_getElem hn
    obtain ⟨en, hen, hkey⟩ := ent n _ hp
    refine next_key_item st atd dt' sz hen fun h' st' sb => ?_
    have J : Inv X pins σ H { s with heap := h' } := I.turned (t' := s.toks) (fun b u hb z => (sb.2 b hb).trans z) g0 g1 g3 g4 g5
    obtain ⟨oi, z, cc, dd⟩ := id st'
    refine ⟨en.key, rfl, go_of (s := { s with heap := h' }) z cc dd (by decide) ⟨.ref kvs[n].2.1, H, J, hkey, ⟨rfl, kvs[n], hp, rfl⟩, st', fun b hb => (hf b hb).1⟩⟩
  done := by
    intro X hP hw hK hc n pins s σ H E I hf st hg
    subst hP hw hK
    obtain ⟨hd, hn⟩ := hg
    obtain ⟨g0, g1, g2, g3, g4, g5⟩ := hf itr (by simp)
    obtain ⟨_, atd, _, es', ep', dt', sz, ent⟩ := locked_at I hd
    obtain ⟨rfl, rfl⟩ := same_data hob dt'
    exact next_key_end (I.ok.hd hc) st atd dt' sz hn fun h' eb => ⟨rfl, I.turned (t' := s.toks) (fun b u hb z => eb b u hb z) g0 g1 g3 g4 g5⟩
  self := fun A n s Q E st h => by
    refine wpAny_pyIter_slot st.typeIs PySem.F.slot_dict_keyiterator_iter (wpAny_call_entry PySem.F.slot_dict_keyiterator_iter st.typeIs PySem.F.entry_dict_keyiterator_iter ?_ (PySem.F.args_dict_keyiterator_iter_1 _))
    show wpAny _ _ (ret (.ref itr)) _ _ s
    exact wpAny_pure ⟨_, rfl, "dict_keyiterator", _, st.typeIs, PySem.F.slot_dict_keyiterator_next.lookup, h⟩
def iKeysN (X : Cx) (td : TE) : TI := fun σ H R => td σ H fun x H1 => ∃ (d : Addr) (ob : Obj) (kvs : List Ent), x = .ref d ∧ H1 d = some (.frz ob (DO X.prog X.w d kvs)) ∧ R (ItN X.prog X.w d ob kvs) H1
theorem pi_keysN {X : Cx} {tg e : Expr} {td : TE} (he : PE X e td) : PI X tg e (iKeysN X td) := by
  refine ⟨fun pins s σ H R I h => ?_⟩
  refine thn (he.run pins s σ H _ I h) fun u s1 ⟨x, H1, J, rx, d, ob, kvs, ex, hd, q⟩ => ?_
  subst ex
  obtain rfl : u = Value.ref d := rx
  obtain ⟨hs, atd, exd, es, ep, dt, sz, _⟩ := locked_at J hd
  refine iter_keys hs atd exd dt (pi_one (tk := s1.toks) J _ (turn_keysN _ dt) ⟨_, Heap.get?_push_size _ rfl, rfl, ?_⟩ q)
  rw [sz] <;> rfl
theorem walk_keysN {P : Program} {w : World} {d : Addr} {ob : Obj} {kvs : List Ent} : Walk (ItN P w d ob kvs) kvs.length (fun H => H d = some (.frz ob (DO P w d kvs))) (fun n H x H' => H' = H ∧ ∃ p, kvs[n]? = some p ∧ x = .ref p.2.1) :=
  ⟨fun _ _ hn q => ⟨q, hn⟩, fun _ q => ⟨q, Nat.le_refl _⟩, fun _ _ _ _ _ _ y => y⟩
end ND
/-! for k, v in d.items(): dicts whose keys are nested tuples -/
namespace ND
open PySem PySem.Spec PyProof.Rows L2
set_option autoImplicit false
def IiN (P : Program) (w : World) (d : Addr) (ob : Obj) (kvs : List Ent) : L2.It :=
  ⟨fun n H => H d = some (.frz ob (DO P w d kvs)) ∧ n < kvs.length, fun n H x H' => ∃ (p : Addr) (e : Ent), kvs[n]? = some e ∧ x = .ref p ∧ H p = none ∧ H' = upd H p (.tup [.ref e.2.1, e.2.2]), fun n H => H d = some (.frz ob (DO P w d kvs)) ∧ kvs.length ≤ n⟩
theorem locked_at2 {X : Cx} {pins : List (Addr × Obj)} {σ : L2.St} {H : Hp} {s : Shared} {d : Addr} {ob : Obj} {kvs : List Ent} (I : Inv X pins σ H s) (h : H d = some (.frz ob (DO X.prog X.w d kvs))) :
    (d == sysModules) = false ∧ s.heap.get? d = some ob ∧ ob.ExactDict ∧ ∃ (es : Array DictEntry) (ep : Nat), ob.data = .dict es ep ∧ es.size = kvs.length ∧
      ∀ (n : Nat) (p : Ent), kvs[n]? = some p → ∃ en : DictEntry, es[n]? = some en ∧ en.key = .ref p.2.1 ∧ RelV p.2.2 en.val := by
  obtain ⟨at1, ⟨hs, _, xs, rel, o1, es, ep, at2, ex, dt, he, _⟩, _⟩ := I.hok d _ h
  rw [at1] at at2
  cases at2
  refine ⟨hs, at1, ex, es, ep, dt, ?_, fun n p hp => ?_⟩
  · rw [size_of_entries he, rel.len]
  · obtain ⟨q, hq, _, e2, e3⟩ := KN.get rel n p hp
    have z := entry_at he n
    rw [hq] at z
    exact ⟨_, z, by rw [e2]; rfl, e3⟩
theorem turn_itemsN {P : Program} {w : World} {K : PySem.W.Frag} {elts : List Expr} {kk : Nat} {tpos : Pos} {d : Addr} {ob : Obj} {es : Array DictEntry} {ep : Nat} {kvs : List Ent} (it : Addr) (hob : ob.data = .dict es ep) :
    Turn P w K (.Tuple elts kk tpos) (IiN P w d ob kvs) [it] it (fun i h => ∃ ok ov, IsItemIter h it d i kvs.length ep ok ov) where
  mem := by simp
  obj := fun i h st b hb => by
    have e : b = it := by simpa using hb
    subst e
    obtain ⟨ok, ov, e⟩ := st
    exact ⟨_, e, fun v z => nomatch z⟩
  keep := fun i h h' st k => let ⟨ok, ov, e⟩ := st; ⟨ok, ov, k it (by simp) _ e⟩
  item := by
    intro X hP hw hK hc i pins s σ H E I hf st hg
    subst hP hw hK
    obtain ⟨hd, hi⟩ := hg
    obtain ⟨hs, hgd, hx, es', ep', hdt, hsz, ent⟩ := locked_at2 I hd
    obtain ⟨rfl, rfl⟩ := same_data hob hdt
    have hkv : kvs[i]? = some kvs[i] := List.getElem?_eq_getElem hi
    obtain ⟨en, hen, hkey, hval⟩ := ent i _ hkv
    obtain ⟨ok, ov, he⟩ := st
    rw [← hsz] at he
    have hi' : i < es'.size := by omega
    have een : es'[i] = en := by
      rw [Array.getElem?_eq_getElem hi'] at hen
      exact Option.some.inj hen
    have hlt : it < s.heap.objs.size := Heap.lt_size he
    refine DT.nextI he ⟨ob, hgd, hx, hdt⟩ hi' fun h' ho hT hz hk => ?_
    rw [een] at ho hT
    refine ⟨_, rfl, wpAny_letOwnedTupleGo_items (s := { s with heap := h' }) ho fun h'' he' sb => ?_⟩
    have hT2 : h''.get? s.heap.objs.size = some { cls := .type "tuple", data := .seq #[en.key, en.val] } := (sb.2 _ (Nat.ne_of_gt hlt)).trans hT
    have new : ObjOk X.prog X.w (upd H s.heap.objs.size (.tup [.ref kvs[i].2.1, kvs[i].2.2])) h'' s.heap.objs.size (.tup [.ref kvs[i].2.1, kvs[i].2.2]) :=
      ⟨by show 2 ≤ sizeLine; decide, [en.key, en.val], .cons hkey (.cons hval .nil), ⟨_, hT2, rfl, _, rfl⟩⟩
    have I1 : Inv X pins σ (upd H s.heap.objs.size (.tup [.ref kvs[i].2.1, kvs[i].2.2])) { s with heap := h'' } :=
      I.turnedNew (t' := s.toks) (ch := [it]) (fun b ob hb e => (sb.2 b (by simpa using hb)).trans (hk b ob (by simpa using hb) e)) hf (Nat.le_refl _) new
    refine ⟨.ref s.heap.objs.size, _, I1, rfl, ⟨_, _, hkv, rfl, I.hok.fresh (Nat.le_refl _), rfl⟩, ⟨en.key, en.val, ?_⟩, fun b hb => ?_⟩
    · rw [← hsz]; exact he'
    · have e : b = it := by simpa using hb
      rw [e, upd_ne (Nat.ne_of_lt hlt)]
      exact (hf it (by simp)).1
  done := by
    intro X hP hw hK hc i pins s σ H E I hf st hg
    subst hP hw hK
    obtain ⟨hd, hi⟩ := hg
    obtain ⟨f0, f1, f2, f3, f4, f5⟩ := hf it (by simp)
    obtain ⟨hs, hgd, hx, es', ep', hdt, hsz, ent⟩ := locked_at2 I hd
    obtain ⟨rfl, rfl⟩ := same_data hob hdt
    obtain ⟨ok, ov, he⟩ := st
    rw [← hsz] at he
    exact DT.endI (I.ok.hd hc) he ⟨ob, hgd, hx, hdt⟩ (by omega) fun h' eb => ⟨rfl, I.turned (t' := s.toks) (fun b ob hb e => eb b ob hb e) f0 f1 f3 f4 f5⟩
  self := fun A i s Q E st h => let ⟨_, _, e⟩ := st; PySem.W.kcp_self e h
def iItemsN (X : Cx) (td : TE) : TI := fun σ H R => td σ H fun x H1 => ∃ (d : Addr) (ob : Obj) (kvs : List Ent), x = .ref d ∧ H1 d = some (.frz ob (DO X.prog X.w d kvs)) ∧ R (IiN X.prog X.w d ob kvs) H1
theorem pi_itemsN {X : Cx} {e : Expr} {td : TE} {apos cpos : Pos} {elts : List Expr} {kk : Nat} {tpos : Pos} (he : PE X e td) (hbase : attributeBase e "items" X.env (eval e X.env) = eval e X.env := by rfl) (hline : (apos.endLine == cpos.line) = true := by rfl) :
    PI X (.Tuple elts kk tpos) (.Call (.Attribute e "items" apos) [] [] cpos) (iItemsN X td) := by
  refine ⟨fun pins s σ H R I h => ?_⟩
  refine wpAny_Call_method (T := "dict") (id := "dict.items") hbase rfl hline PySem.F.plainAttrs_dict PySem.F.slot_dict_items PySem.F.type_dict_items (thn (he.run pins s σ H _ I h) fun u s1 ⟨x, H1, I1, rx, d, o, kvs, ex, hd, q⟩ => ?_)
  subst ex
  obtain rfl : u = Value.ref d := rx
  obtain ⟨hs, hgd, hx, es, ep, hdt, hsz, ent⟩ := locked_at2 I1 hd
  have raw : DT.Raw s1.heap d es ep := ⟨o, hgd, hx, hdt⟩
  refine ⟨raw.typeIs, ?_, ?_⟩
  · exact fun a e => by cases e; exact ⟨o, hgd, hx.2.1⟩
  have I2 : Inv X pins σ H1 { s1 with heap := s1.heap.push { cls := .type "dict_items", data := .fields #[.ref d] } } := I1.kept (t' := s1.toks) fun b ob q => Heap.get?_push_of_some _ q
  have fin : wpAny (model X.prog X.w) X.A (pyIter (.ref s1.heap.objs.size)) (PIE X pins σ (.Tuple elts kk tpos) R) X.xe { s1 with heap := s1.heap.push { cls := .type "dict_items", data := .fields #[.ref d] } } := by
    refine DT.iterI (d := d) ⟨_, Heap.get?_push_size _ rfl, rfl, rfl⟩ (raw.push _) (pi_one (tk := s1.toks) I2 _ (turn_itemsN _ hdt) ⟨.none, .none, ?_⟩ q)
    rw [← hsz]
    exact Heap.get?_push_size _ rfl
  show wpAny _ _ (callWith cpos (.builtin "dict.items") [.ref d] [] []) _ X.xe s1
  exact method_meetsIn PySem.F.slot_dict_items PySem.F.entry_dict_items rfl (PySem.evalArgs_none ⟨rfl, raw.typeIs, PySem.F.args_dict_items_1 _, _, DT.meetsItems (es := es) (ep := ep) hs, ⟨raw, fin⟩⟩)
end ND
/-! (a, *xs): a tuple's items at the end of written items -/
namespace ND
open PySem PySem.Spec PyProof.Rows L2
set_option autoImplicit false
def tStarT (K : PySem.W.Frag) (te : TE) : TA := fun σ H Q => te σ H fun x H1 => ∃ (a : Addr) (xs : List V), x = .ref a ∧ SqT K H1 a xs ∧ Q xs H1
theorem pa_starT {X : Cx} {e : Expr} {p : Pos} {te : TE} (ha : PE X e te) : PA X [.Starred e p] (tStarT X.K te) := by
  refine ⟨fun pos pins s σ H Q I h => PySem.W.items_star (thn (ha.run pins s σ H _ I h) fun u s1 ⟨x, H1, I1, r1, a, xs, ex, hx, q⟩ => ?_)⟩
  subst ex
  obtain rfl : u = Value.ref a := r1
  obtain ⟨its, rv, ht, hz⟩ := I1.tuple hx
  obtain ⟨o, D, hc, n, hd⟩ := id ht
  have hT' : s1.TypeIs (.ref a) "tuple" := ⟨o, D, hc⟩
  have l := rv.length
  unfold PySem.W.StarOf notIterableAtAll
  refine wpAny_bind (wpAny_specialOf hT' PySem.F.slot_tuple_iter.lookup (wpAny_pure ⟨rfl, ?_⟩))
  refine wpAny_collect_seq a (.inr rfl) D hc hd (fun h' hk => ?_) (by show its.length ≤ sizeLine; omega)
  refine Calls.spliced_nil ?_
  exact ⟨xs, H1, I1.kept (t' := s1.toks) hk, by rw [List.append_nil]; exact rv, q⟩
end ND
/-! sorted(xs, key=f): f a def of the program whose promise gives a text and leaves all as it was -/
namespace SK
open PySem PySem.Spec PyProof.Rows L2 PySem.W
set_option autoImplicit false
def leG (g : V → Str) : V → V → Bool := dataLe false fun x => PyData.str (g x)
def Rx (u : Value) (x : V) : Prop := RelV x u
theorem each_vals : ∀ {xs : List V} {us : List Value}, Vals xs us → EachIs Rx us xs
  | _, _, .nil => .nil
  | _, _, .cons h r => .cons h (each_vals r)
theorem vals_each : ∀ {xs : List V} {us : List Value}, EachIs Rx us xs → Vals xs us
  | _, _, .nil => .nil
  | _, _, .cons h r => .cons h (vals_each r)
theorem nf {a q : Addr} {n : Nat} (h1 : a < n) (h2 : n ≤ q) : q ≠ a := fun e => absurd (Nat.lt_of_lt_of_le h1 h2) (by rw [e]; exact Nat.lt_irrefl _)
structure Fresh (X : Cx) (pins : List (Addr × Obj)) (H : Hp) (q : Addr) : Prop where
  non : H q = none
  loc : q ≠ X.env.locals
  fs : q ∉ X.fs
  new : X.s_0.heap.objs.size ≤ q
  cel : ∀ x c, X.env.cells.lookup x = some c → c ≠ q
  pin : ∀ p ∈ X.pn ++ pins, p.1 ≠ q
section
variable {X : Cx} {pins : List (Addr × Obj)} {σ : L2.St} {H : Hp} {s : Shared}
theorem fresh_of (I : Inv X pins σ H s) {q : Addr} (h : s.heap.objs.size ≤ q) : Fresh X pins H q where
  non := I.hok.fresh h
  loc := nf I.lt h
  fs := I.nofs h
  new := Nat.le_trans I.sz h
  cel := fun x c hc => by
    obtain ⟨v, o, ho, _⟩ := I.cell x c hc
    exact (nf (Heap.lt_size ho) h).symm
  pin := fun p hp => (nf (Heap.lt_size (I.pin p hp).1) h).symm
/-- the key store of the sort: pinned with what it holds; the list itself: tracked to the object -/
def here (a : Addr) (o : Obj) : HO := .ext fun h => h.get? a = some o
theorem here_ok {P : Program} {w : World} {h : Heap} {a : Addr} {o : Obj} (e : h.get? a = some o) : ObjOk P w H h a (here a o) := ⟨e, ⟨o, e⟩, fun _ _ z k => k o z⟩
theorem here_at {P : Program} {w : World} {h : Heap} {a : Addr} {o : Obj} (x : HOk P w H h) (e : H a = some (here a o)) : h.get? a = some o := (x a _ e).1
theorem seq_list {vs : Array Value} {n : Nat} : (seqObj "list" vs n) = ({ cls := .type "list", data := .seq vs n } : Obj) := rfl
theorem sort_core {a f : Addr} {fd : FuncData} {k tk0 : Nat} {pn : Str} {sp : Sp} {xs : List V} {vs : List Value} {g : V → Str} {hC : Heap} {Q : Value → Shared → Prop} {E' : Value → Shared → Prop} (I : Inv X pins σ H s) (keepC : ∀ b u, s.heap.get? b = some u → hC.get? b = some u) (ha : s.heap.objs.size ≤ a) (at0 : hC.get? a = some (seqObj "list" vs.toArray 0)) (rv : Vals xs vs) (hL : xs.length ≤ sizeLine)
    (F : FnOk X.prog X.w X.K X.mg X.base CX0 k f fd [pn] sp) (hr : Room (k + 2) X.A) (hb : Binds X.K fd [pn] []) (hu : X.A.units + 4 < cLine)
    (hsp : ∀ x ∈ xs, ∀ H', Same H H' → sp [x] H' (fun v H2 => v = .str (g x) ∧ Same H' H2) (fun _ _ _ => False))
    (fin : ∀ (H2 : Hp) (q : Addr) (s2 : Shared), Inv X pins σ H2 s2 → Same H H2 → H q = none → H2 q = some (.lst (xs.mergeSort (leG g))) → Q (.ref q) s2) :
    wpAny (model X.prog X.w) X.A.in1.in1 (Builtin.«list.sort» ⟨[.ref a], [(Str.ofString "key", .ref f)]⟩) (fun f s' => f = .done (.ret .none) ∧ Q (.ref a) s') E' { s with heap := hC, toks := tk0 } := by
  have vl : xs.length = vs.length := rv.length
  rw [ksk_t1]
  obtain ⟨e1, at1⟩ : ∃ e1, (hC.update a (Obj.mapSeq fun _ => (#[] : Array Value))).get? a = some (seqObj "list" #[] e1) := ⟨_, get?_update_seq at0 fun _ => #[]⟩
  generalize eh : hC.update a (Obj.mapSeq fun _ => (#[] : Array Value)) = hA at at1
  have keepA : ∀ b u, s.heap.get? b = some u → hA.get? b = some u := fun b u q => by
    rw [← eh, Heap.get?_update_ne _ _ _ _ (nf (Heap.lt_size q) ha).symm]
    exact keepC b u q
  unfold ksk_tree
  refine wpAny_bind (listItems_at (s := { s with heap := hC, toks := tk0 }) at0 rfl ?_)
  refine wpAny_bind (listUpdate_at (s := { s with heap := hC, toks := tk0 }) at0 rfl ?_ (by rw [List.size_toArray, ← vl]; exact hL) (Nat.zero_le _))
  show wpAny _ _ _ _ _ { s with toks := tk0, heap := hC.update a (Obj.mapSeq fun _ => (#[] : Array Value)) }
  rw [eh]
  refine wpAny_bind (seqEpoch_at (s := { s with heap := hA, toks := tk0 }) at1 rfl ?_)
  refine wpAny_bind (wpAny_newTuple ?_ (by show vs.length ≤ _; rw [← vl]; exact hL))
  refine wpAny_bind (wpAny_newList ?_ (Nat.zero_le _))
  refine wpAny_holding ?_
  -- the heap with the list emptied, the tuple laid
  generalize eT : hA.push (seqObj "tuple" vs.toArray 0) = hT
  have atT : hT.get? a = some (seqObj "list" #[] e1) := by
    rw [← eT]
    exact Heap.get?_push_of_some _ at1
  have I1 : Inv X pins σ (upd H a (here a (seqObj "list" #[] e1))) { s with heap := hT, toks := tk0 } := by
    refine I.laid (fun b u q => ?_) ha (here_ok atT)
    rw [← eT]
    exact Heap.get?_push_of_some _ (keepA b u q)
  have Ha : H a = none := I.hok.fresh ha
  have sm1 : Same H (upd H a (here a (seqObj "list" #[] e1))) := fun b o q => by
    rw [upd_ne (ne_of_none q Ha)]
    exact q
  generalize eH1 : upd H a (here a (seqObj "list" #[] e1)) = H1 at I1 sm1
  have H1a : H1 a = some (here a (seqObj "list" #[] e1)) := by
    rw [← eH1]
    exact upd_same
  have fr := fresh_of I1 (Nat.le_refl _)
  show wpAny _ _ (ksk_rest a (.ref f) false vs.toArray e1 (.ref hT.objs.size)) _ _ { s with heap := hT.push (seqObj "list" #[] 0), toks := tk0 }
  have hTs : hT.objs.size = ({ s with heap := hT, toks := tk0 } : Shared).heap.objs.size := rfl
  generalize eS : hT.objs.size = kS at fr ⊢
  have ka : kS ≠ a := nf (Heap.lt_size atT) (Nat.le_of_eq eS)
  have I2 : Inv X ((kS, seqObj "list" #[] 0) :: pins) σ H1 { s with heap := hT.push (seqObj "list" #[] 0), toks := tk0 } := by
    have J : Inv X pins σ H1 { s with heap := hT.push (seqObj "list" #[] 0), toks := tk0 } := I1.kept (t' := tk0) fun b u q => Heap.get?_push_of_some _ q
    refine J.pins_of fun p hp => ?_
    rcases List.mem_cons.mp hp with e | e
    · rw [e]
      refine ⟨?_, fr.non, fr.loc, fr.fs, fun v z => by cases z⟩
      rw [← eS]
      exact Heap.get?_push_size _ rfl
    · exact J.pin p (List.mem_append_right _ e)
  unfold ksk_rest
  refine wpAny_bind (wpAny_rule ?_)
  first
    | rw [List.forIn_toArray]
    | (rw [← Array.forIn_toList]; simp only [List.toList_toArray])
  refine wpAny_bind (ksk_fold (fun n s' => ∃ (Hn : Hp) (kA : Array Value) (e : Nat), Inv X ((kS, seqObj "list" kA e) :: pins) σ Hn s' ∧ Same H1 Hn ∧ Vals ((xs.take n).map fun x => V.str (g x)) kA.toList) vs 0 _ ⟨H1, #[], 0, I2, Same.refl _, .nil⟩ ?turn ?over)
  case turn =>
    rintro j u s' hj ⟨Hn, kA, e, J, sm, rk⟩
    simp only [Nat.zero_add] at rk ⊢
    have jl : j < vs.length := (List.getElem?_eq_some_iff.mp hj).1
    obtain ⟨x, hx, rx⟩ : ∃ x, xs[j]? = some x ∧ RelV x u := by
      have hx : xs[j]? = some (xs[j]'(by omega)) := List.getElem?_eq_getElem (by omega)
      obtain ⟨u', hu', ru'⟩ := rv.get hx
      rw [hj] at hu'
      cases hu'
      exact ⟨_, hx, ru'⟩
    have xm : x ∈ xs := List.mem_of_getElem? hx
    have hrun : wpAny (model X.prog X.w) X.A.in1.in1 (call (.ref f) [u]) (fun v s2 => EP X ((kS, seqObj "list" kA e) :: pins) σ (fun v H2 => v = .str (g x) ∧ Same Hn H2) v s2) (fun _ _ => False) s' := by
      have hr2 : Room k X.A.in1.in1 := (show Room (k + 1) X.A.in1 from Room.in1 hr).in1
      refine wpAny_call (codeAny_mono (F.run X.A.in1.in1 X.stack s' Hn ⟨[u], []⟩ [u] [x] (fun v H2 => v = .str (g x) ∧ Same Hn H2) (fun _ _ _ => False) hr2 J.env0.in1.in1 ?_ (.cons rx .nil) (hsp x xm Hn (sm1.trans sm))) fun r s2 hq => ?_)
      · have b1 := hb s' [u] J.kIn rfl
        rw [List.append_nil] at b1
        exact b1
      · cases r with
        | error er => exact (hq : False)
        | ok fl =>
          cases fl with
          | ret v => exact J.after hq
          | next => exact False.elim hq
          | brk => exact False.elim hq
          | cont => exact False.elim hq
    refine wpAny_bind (wpAny_attempt (wpAny_mono hrun (fun v s2 hv => ?_) fun _ _ z => z.elim))
    obtain ⟨y, H2, J2, ry, ey, sm2⟩ := hv
    subst ey
    have pk := J2.pin (kS, seqObj "list" kA e) (List.mem_append_right _ List.mem_cons_self)
    have kl : kA.size ≤ vs.length := by
      have q1 := rk.length
      rw [List.length_map, List.length_take] at q1
      have q2 : kA.toList.length = kA.size := Array.length_toList
      omega
    obtain ⟨c2, hc2⟩ : ∃ c2, (s2.heap.update kS (Obj.mapSeq (·.push v))).get? kS = some (seqObj "list" (kA.push v) c2) := ⟨_, get?_update_seq pk.1 (·.push v)⟩
    have sb := Heap.SameBut.update s2.heap kS (Obj.mapSeq (·.push v))
    try dsimp only
    refine wpAny_bind (listUpdate_at pk.1 rfl ?_ (by rw [← vl] at kl; omega) (by rw [Array.size_push, ← vl] at *; omega))
    refine wpAny_pure ⟨rfl, H2, kA.push v, c2, ?_, sm.trans sm2, ?_⟩
    · have J3 : Inv X pins σ H2 s2 := J2.pins_of fun p hp => J2.pin p (List.mem_append_right _ (List.mem_cons_of_mem _ hp))
      have J4 := J3.turned (t' := s2.toks) (h' := s2.heap.update kS (Obj.mapSeq (·.push v))) (it := kS) (fun b o hb q => (sb.2 b hb).trans q) pk.2.1 fr.loc (.inr fr.new) fr.cel fr.pin
      refine J4.pins_of fun p hp => ?_
      rcases List.mem_cons.mp hp with q | q
      · rw [q]
        exact ⟨hc2, pk.2.1, fr.loc, fr.fs, fun v z => by cases z⟩
      · exact J4.pin p (List.mem_append_right _ q)
    · rw [List.take_add_one, hx, List.map_append, Array.toList_push]
      exact rk.append (.cons ry .nil)
  case over =>
    rintro s' ⟨Hn, kA, e, J, sm, rk⟩
    simp only [Nat.zero_add] at rk
    rw [← vl, List.take_length] at rk
    have pk := J.pin (kS, seqObj "list" kA e) (List.mem_append_right _ List.mem_cons_self)
    have ata : s'.heap.get? a = some (seqObj "list" #[] e1) := here_at J.hok (sm _ _ H1a)
    have ksz : kA.size = vs.length := by
      have q1 := rk.length
      rw [List.length_map] at q1
      have q2 : kA.toList.length = kA.size := Array.length_toList
      omega
    have eachK : EachIs (fun v d => ∃ as, Reads s'.heap v d as) kA.toList (xs.map fun x => PyData.str (g x)) := by
      have gen : ∀ (ys : List V) (us : List Value), Vals (ys.map fun x => V.str (g x)) us → EachIs (fun v d => ∃ as, Reads s'.heap v d as) us (ys.map fun x => PyData.str (g x)) := by
        intro ys
        induction ys with
        | nil =>
          intro us r
          cases r
          exact .nil
        | cons y ys ih =>
          intro us r
          cases r with
          | cons ry rr =>
            obtain ⟨t, rfl⟩ := ry
            exact .cons ⟨[], .str _ _⟩ (ih _ rr)
      exact gen xs _ rk
    have alikeK : AllAlike (xs.map fun x => PyData.str (g x)) := by
      intro d hd d' hd'
      obtain ⟨b, _, rfl⟩ := List.mem_map.mp hd
      obtain ⟨c, _, rfl⟩ := List.mem_map.mp hd'
      simp [alike]
    have sortK : Sortable (xs.map fun x => PyData.str (g x)) := by
      refine .inr fun d hd => ?_
      obtain ⟨b, _, rfl⟩ := List.mem_map.mp hd
      exact ⟨by simp, fun ys => by simp⟩
    have unitK : ∀ d ∈ xs.map (fun x => PyData.str (g x)), X.A.in1.in1.units + d.depth < cLine := by
      intro d hd
      obtain ⟨b, _, rfl⟩ := List.mem_map.mp hd
      have u1 : X.A.in1.in1.units ≤ X.A.units + 2 := by first | exact Nat.le_refl _ | simp [Around.in1]
      simp only [PyData.depth]
      omega
    try dsimp only
    refine wpAny_bind (listItems_at pk.1 rfl ?_)
    have hid : (hideAll s'.heap [kS]).get? kS = none := hideAll_none _ (by simp)
    refine keyH_end (κ := dataKind s'.heap (xs.map fun x => PyData.str (g x))) (h₁ := hideAll s'.heap [kS]) (fun b o _ q => of_hideAll _ q) hid pk.1 ata ka (SortsAt.data (s := s') eachK alikeK sortK unitK) ksz (by rw [← vl]; exact hL) fun h3 tk c kp at3 => ⟨rfl, ?_⟩
    have eo : EachIs Rx (sortVals (dataKind s'.heap (xs.map fun x => PyData.str (g x))) false kA.toList vs) (xs.mergeSort (leG g)) :=
      keyedOut_each (rev := false) (fun x : V => PyData.str (g x)) ⟨s'.heap, kA.toList, alikeK, rfl, eachK⟩ (each_vals rv)
    generalize sortVals (dataKind s'.heap (xs.map fun x => PyData.str (g x))) false kA.toList vs = out at at3 eo
    -- the key store is let go, then the list takes the items
    have J3 : Inv X pins σ Hn s' := J.pins_of fun p hp => J.pin p (List.mem_append_right _ (List.mem_cons_of_mem _ hp))
    have back : (h3.update a fun _ => seqObj "list" #[] e1).get? a = some (seqObj "list" #[] e1) := by
      exact Heap.get?_update_self _ at3 rfl
    have J4 := J3.turned (t' := tk) (h' := h3.update a fun _ => seqObj "list" #[] e1) (it := kS) (fun b o hb q => ?_) pk.2.1 fr.loc (.inr fr.new) fr.cel fr.pin
    · have lenO : (xs.mergeSort (leG g)).length ≤ sizeLine := by
        rw [List.length_mergeSort]
        exact hL
      have J5 := J4.write (t' := tk) (x := a) (e := a) (h' := h3) (o := .lst (xs.mergeSort (leG g))) (by rw [sm _ _ H1a]; exact True.intro) (.inl rfl) (fun b u hb q => ?_) ⟨_, at3⟩ ⟨lenO, out, c, vals_each eo, at3⟩
      · refine fin _ a _ J5 (fun b o q => ?_) Ha upd_same
        rw [upd_ne (ne_of_none q Ha)]
        exact sm _ _ (sm1 _ _ q)
      · rw [Heap.get?_update_ne _ _ _ _ hb] at q
        exact q
    · by_cases ba : b = a
      · rw [ba] at q ⊢
        rw [ata] at q
        rw [← Option.some.inj q]
        exact back
      · rw [Heap.get?_update_ne _ _ _ _ ba]
        refine kp b o ba ?_
        exact hideAll_get [kS] q (by simpa using hb)
theorem sorted_fn {l f : Addr} {fd : FuncData} {k : Nat} {pn : Str} {sp : Sp} {xs : List V} {vs : List Value} {g : V → Str} {Q : Value → Shared → Prop} {E : Value → Shared → Prop} (I : Inv X pins σ H s) (hl : s.heap.IsList l vs.toArray) (rv : Vals xs vs) (hL : xs.length ≤ sizeLine)
    (F : FnOk X.prog X.w X.K X.mg X.base CX0 k f fd [pn] sp) (hr : Room (k + 2) X.A) (hb : Binds X.K fd [pn] []) (hu : X.A.units + 4 < cLine)
    (hsp : ∀ x ∈ xs, ∀ H', Same H H' → sp [x] H' (fun v H2 => v = .str (g x) ∧ Same H' H2) (fun _ _ _ => False))
    (fin : ∀ (H2 : Hp) (q : Addr) (s2 : Shared), Inv X pins σ H2 s2 → Same H H2 → H q = none → H2 q = some (.lst (xs.mergeSort (leG g))) → Q (.ref q) s2) :
    wpAny (model X.prog X.w) X.A (call (.builtin "sorted") [.ref l] [(Str.ofString "key", .ref f)]) Q E s := by
  refine sorted_of_sort hl (by rw [← rv.length]; exact hL) (ksk_s1 _ _) (fun _ => ksk_l1 _ _) fun E' => ?_
  exact sort_core I (fun b u q => copyHeap_old q) (Nat.le_succ _) (copyHeap_at s.heap vs) rv hL F hr hb hu hsp fin
end
end SK
namespace SK
open PySem PySem.Spec PyProof.Rows L2 PySem.W
set_option autoImplicit false
/-- a tuple is read in one way -/
def TInj (K : PySem.W.Frag) (H : Hp) : Prop := ∀ (a : Addr) (xs ys : List V), SqT K H a xs → SqT K H a ys → xs = ys
def tSortFn (K : PySem.W.Frag) (sp : Sp) (t : TA) : TE := fun σ H Q => t σ H fun vs H1 => TInj K H1 → ∃ (l : Addr) (xs : List V) (g : V → Str), vs = [.ref l] ∧ SqL K H1 l xs ∧
  (∀ x ∈ xs, ∀ H', Same H1 H' → sp [x] H' (fun v H2 => v = .str (g x) ∧ Same H' H2) (fun _ _ _ => False)) ∧ ∀ H2 p, Same H1 H2 → H1 p = none → H2 p = some (.lst (xs.mergeSort (leG g))) → Q (.ref p) H2
section
variable {X : Cx} {p p2 pos kpos : Pos} {e : Expr} {t : TA} {k : Nat} {f : Addr} {fd : FuncData} {pn fn : Str} {sp : Sp}
theorem pe_sortedFn (F : FnOk X.prog X.w X.K X.mg X.base CX0 k f fd [pn] sp) (hr : Room (k + 2) X.A) (hb : Binds X.K fd [pn] []) (hgs : Gl X "sorted") (hms : X.mg "sorted" = none) (hgf : Gl X fn) (hmf : X.mg fn = some (.ref f)) (ha : PA X [e] t)
    (hdb : (fn == ("__debug__" : Str)) = false := by decide) (he : backTo pos (starEach [e] X.env) = (false, eval e X.env) :: backTo pos (starEach [] X.env) := by rfl) (hpl : (backTo pos (starEach [e] X.env)).any (·.1) = false := by rfl) :
    PE X (.Call (.Name "sorted" p) [e] [⟨some "key", .Name fn p2, kpos⟩] pos) (tSortFn X.K sp t) := by
  refine ⟨fun pins s σ H Q I h => ?_⟩
  refine wpAny_Call_Name_kw (ld_blt I hgs hms (u := .builtin "sorted") (by decide +kernel) ?_)
  refine PyProof.Rows.callWith_kw (thn (ha.run pos pins s σ H _ I h) fun us s1 ⟨vs, H1, J, r1, q1⟩ => ?_) he hpl (by rfl) (by rfl)
  show wpAny _ _ (evalAll [do let v ← eval (.Name fn p2) X.env; standAt pos; pure v]) _ _ s1
  refine wpAny_evalAll_cons (wpAny_bind (ld_glob J hgf hmf (wpAny_bind (wpAny_standAt (wpAny_pure (wpAny_evalAll_nil ?_)))) hdb))
  obtain ⟨l, xs, g, rfl, hs, hsp, q⟩ := q1 fun a xs ys h1 h2 => J.tuple_inj h1 h2
  obtain ⟨its, rv, hl, hz⟩ := J.list hs
  rw [Vals.ref1 r1]
  show wpAny _ _ (call (.builtin "sorted") [.ref l] [(Str.ofString "key", .ref f)]) _ _ _
  exact sorted_fn J hl.isList rv hz F hr hb (by have := hr.units; omega) hsp fun H2 a s2 J2 sm hn ha => ⟨.ref a, H2, J2, rfl, q H2 a sm hn ha⟩
end
end SK
/-! sorted(d, reverse=b), sorted(d, key=f), list(d): d a dict with tuple keys -/
namespace ND
open PySem PySem.Spec PyProof.Rows L2 PySem.W PySem.Calls
set_option autoImplicit false
def keyRefs (kvs : List Ent) : List Value := kvs.map fun p => Value.ref p.2.1
def keyVs (kvs : List Ent) : List V := kvs.map fun p => V.ref p.2.1
theorem keyVals : ∀ kvs : List Ent, Vals (keyVs kvs) (keyRefs kvs)
  | [] => .nil
  | _ :: r => .cons rfl (keyVals r)
section
variable {X : Cx} {pins : List (Addr × Obj)} {σ : L2.St} {H : Hp} {s : Shared} {d : Addr} {kvs : List Ent}
theorem raw_at (I : Inv X pins σ H s) (hd : Rd H d (DO X.prog X.w d kvs)) : (d == sysModules) = false ∧ kvs.length ≤ sizeLine ∧ ∃ (es : Array DictEntry) (ep : Nat), s.heap.DictRaw d es ep ∧ es.size = kvs.length ∧ ∀ (n : Nat) (p : Ent), kvs[n]? = some p → ∃ en : DictEntry, es[n]? = some en ∧ en.key = .ref p.2.1 := by
  obtain ⟨⟨hs, hl, xs, rel, o, es, ep, h1, h2, h3, he, _⟩, _, _⟩ := hd.ok I.hok
  refine ⟨hs, hl, es, ep, ⟨o, h1, h2, h3⟩, ?_, fun n p hp => ?_⟩
  · rw [size_of_entries he, rel.len]
  · obtain ⟨q, hq, _, e2, _⟩ := KN.get rel n p hp
    have z := entry_at he n
    rw [hq] at z
    exact ⟨_, z, by rw [e2]; rfl⟩
theorem items_keys {es : Array DictEntry} {acc : Array Value} (sz : es.size = kvs.length) (ent : ∀ (n : Nat) (p : Ent), kvs[n]? = some p → ∃ en : DictEntry, es[n]? = some en ∧ en.key = .ref p.2.1) (ha : ItemsOf (fun i v => ∃ hi : i < es.size, v = es[i].key) acc es.size) : acc.toList = keyRefs kvs := by
  refine List.ext_getElem? fun n => ?_
  have asz : acc.toList.length = kvs.length := by
    have q : acc.toList.length = acc.size := Array.length_toList
    have := ha.1
    omega
  by_cases hn : n < kvs.length
  · have hp : kvs[n]? = some kvs[n] := List.getElem?_eq_getElem hn
    obtain ⟨en, hen, hk⟩ := ent n _ hp
    have hv : acc.toList[n]? = some (acc.toList[n]'(by omega)) := List.getElem?_eq_getElem (by omega)
    obtain ⟨hi, e⟩ := ha.2 n _ (by rw [← Array.getElem?_toList]; exact hv)
    have e2 : es[n] = en := by
      have := Array.getElem?_eq_getElem (xs := es) (i := n) hi
      rw [hen] at this
      exact (Option.some.inj this).symm
    rw [hv, e, e2, hk]
    unfold keyRefs
    rw [List.getElem?_map, hp]
    rfl
  · unfold keyRefs
    rw [List.getElem?_map, List.getElem?_eq_none (by omega), List.getElem?_eq_none (by omega)]
    rfl
theorem dict_sorted {kw : List (Str × Value)} {Q : Value → Shared → Prop} {E : Value → Shared → Prop} (I : Inv X pins σ H s) (hd : Rd H d (DO X.prog X.w d kvs)) (calm : X.calm = true) (ha1 : argsOk "sorted" ⟨[.ref d], kw⟩) (ha2 : ∀ x, argsOk "list.sort" ⟨[.ref x], kw⟩)
    (body : ∀ s1 : Shared, Inv X pins σ H s1 → ∀ E' : Value → Shared → Prop,
      wpAny (model X.prog X.w) X.A.in1.in1 (Builtin.«list.sort» ⟨[.ref s1.heap.objs.size], kw⟩) (fun f s' => f = .done (.ret .none) ∧ Q (.ref s1.heap.objs.size) s') E' { s1 with heap := s1.heap.push (seqObj "list" (keyRefs kvs).toArray 0) }) :
    wpAny (model X.prog X.w) X.A (call (.builtin "sorted") [.ref d] kw) Q E s := by
  obtain ⟨lo, hl, es, ep, raw, sz, ent⟩ := raw_at I hd
  refine call_function_entry_kw kind_sorted plain_sorted entry_sorted ha1 ?_
  unfold Builtin.«sorted»
  refine wpAny_bind (m := checkCount "sorted" 1 1 _) (wpAny_pure ?_)
  refine wpAny_bind (kdu_collect (A := X.A.in1) (KdlSrc.rawDict (prog := X.prog) (w := X.w) (es := es) (ep := ep) lo) (I.ok.hd calm) raw (by rw [sz]; exact hl) fun h' tk acc kp items => ?_)
  rw [items_keys sz ent items]
  have kl : (keyRefs kvs).length ≤ sizeLine := by
    unfold keyRefs
    rw [List.length_map]
    exact hl
  refine wpAny_bind (wpAny_newList ?_ kl)
  have J : Inv X pins σ H { s with heap := h', toks := tk } := I.kept kp
  have at0 : (h'.push (seqObj "list" (keyRefs kvs).toArray 0)).get? h'.objs.size = some (seqObj "list" (keyRefs kvs).toArray 0) := Heap.get?_push_size _ rfl
  refine wpAny_bind (wpAny_holding (wpAny_call_entry_kw slot_list_sort ⟨_, at0, rfl⟩ entry_list_sort ?inner (ha2 _)))
  case inner =>
    refine wpAny_mono (body { s with heap := h', toks := tk } J _) (fun f s' hf => ?_) fun _ _ e => e
    obtain ⟨rfl, hq⟩ := hf
    exact ⟨_, rfl, wpAny_pure ⟨_, rfl, hq⟩⟩
/-! ### sorted(d, reverse=b) -/
mutual
theorem NK.dp {K : PySem.W.Frag} {H : Hp} : ∀ (k : NestedKey) (v : V), NK K H k v → Dp K H v k.data
  | .none, _, h => by cases h; exact .non
  | .num i, _, h => by cases h; exact .int i
  | .text x, _, h => by cases h; exact .str x
  | .tup ks, _, h => by
    cases h with
    | tup q r => exact .tup q (NKs.dp ks _ r)
theorem NKs.dp {K : PySem.W.Frag} {H : Hp} : ∀ (ks : List NestedKey) (vs : List V), NKs K H ks vs → DpAll K H vs (NestedKey.datas ks)
  | [], _, h => by cases h; exact .nil
  | k :: ks, _, h => by
    cases h with
    | cons a r => exact .cons (NK.dp k _ a) (NKs.dp ks _ r)
end
def Rr (u : Value) (p : Ent) : Prop := u = .ref p.2.1
theorem each_refs : ∀ kvs : List Ent, EachIs Rr (keyRefs kvs) kvs
  | [] => .nil
  | _ :: r => .cons rfl (each_refs r)
theorem vals_refs : ∀ {us : List Value} {ps : List Ent}, EachIs Rr us ps → Vals (keyVs ps) us
  | _, _, .nil => .nil
  | _, _, .cons h r => .cons h (vals_refs r)
def rSortD (X : Cx) (b : Bool) : List V → List V → Hp → VK → Prop := fun vs zs H Q => ∃ (d : Addr) (kvs : List Ent), vs = [V.ref d] ∧ zs = [.bl b] ∧ Rd H d (DO X.prog X.w d kvs) ∧ KOks X.K H kvs ∧ AllAlike (kvs.map fun p => p.1.data) ∧ Sortable (kvs.map fun p => p.1.data) ∧ (∀ p ∈ kvs, p.1.data.depth ≤ 9) ∧
  ∀ p, H p = none → Q (.ref p) (upd H p (.lst (keyVs (kvs.mergeSort (dataLe b fun p => p.1.data)))))
theorem cr_sortedD {b : Bool} (calm : X.calm = true) (hu : X.A.units + 64 < cLine) : CallRK X (.builtin "sorted") [Str.ofString "reverse"] (rSortD X b) := by
  intro pins s σ H vs zs us ws Q I r rz h
  obtain ⟨d, kvs, rfl, rfl, hd, ok, al, so, dp, q⟩ := h
  obtain rfl := Vals.ref1 r
  obtain ⟨w1, rfl, e1⟩ := vals1 rz
  obtain rfl : w1 = Value.bool b := e1
  have hl : kvs.length ≤ sizeLine := (raw_at I hd).2.1
  refine dict_sorted I hd calm (args_sorted_rev _ _) (fun _ => args_list_sort_rev _ _) fun s1 J E' => ?_
  have at0 : (s1.heap.push (seqObj "list" (keyRefs kvs).toArray 0)).get? s1.heap.objs.size = some (seqObj "list" (keyRefs kvs).toArray 0) := Heap.get?_push_size _ rfl
  have er : EachIs (fun v p => ∃ as, Reads (sortingHeap (s1.heap.push (seqObj "list" (keyRefs kvs).toArray 0)) s1.heap.objs.size (keyRefs kvs)) v p.1.data as) (keyRefs kvs) kvs := by
    have gen : ∀ l : List Ent, KOks X.K H l → EachIs (fun v p => ∃ as, Reads (sortingHeap (s1.heap.push (seqObj "list" (keyRefs kvs).toArray 0)) s1.heap.objs.size (keyRefs kvs)) v p.1.data as) (keyRefs l) l := by
      intro l
      induction l with
      | nil => intro _; exact .nil
      | cons p l ih =>
        intro o
        refine .cons ?_ (ih fun x hx => o x (List.mem_cons_of_mem _ hx))
        obtain ⟨as, rd⟩ := Dp.reads J _ _ _ (NK.dp _ _ (o p List.mem_cons_self).1) rfl
        exact ⟨as, PyProof.Rows.Reads.keeps (fun b o e => sortingHeap_old (Nat.ne_of_lt (Heap.lt_size e)) (Heap.get?_push_of_some _ e)) rd⟩
    exact gen kvs ok
  have un : ∀ x ∈ kvs.map (fun p => p.1.data), X.A.in1.in1.units + x.depth < cLine := by
    intro x hx
    obtain ⟨p, hp, rfl⟩ := List.mem_map.mp hx
    have := dp p hp
    have u1 : X.A.in1.in1.units ≤ X.A.units + 2 := by first | exact Nat.le_refl _ | simp [Around.in1]
    omega
  have kl : (keyRefs kvs).length ≤ sizeLine := by
    unfold keyRefs
    rw [List.length_map]
    exact hl
  refine list_sort_rev_vals (s := { s1 with heap := s1.heap.push (seqObj "list" (keyRefs kvs).toArray 0) }) at0 (SortsAt.data (s := { s1 with heap := sortingHeap (s1.heap.push (seqObj "list" (keyRefs kvs).toArray 0)) s1.heap.objs.size (keyRefs kvs) }) (each_map (R := fun v x => ∃ as, Reads (sortingHeap (s1.heap.push (seqObj "list" (keyRefs kvs).toArray 0)) s1.heap.objs.size (keyRefs kvs)) v x as) (fun p : Ent => p.1.data) er) al so un) kl ⟨rfl, ?_⟩
  have eo := sortVals_data b (each_refs kvs) er al
  generalize sortVals (dataKind (sortingHeap (s1.heap.push (seqObj "list" (keyRefs kvs).toArray 0)) s1.heap.objs.size (keyRefs kvs)) (kvs.map fun p => p.1.data)) b (keyRefs kvs) (keyRefs kvs) = out at eo ⊢
  obtain ⟨c, hc⟩ := PyProof.Rows.sortedHeap_at (vs := keyRefs kvs) (out := out.toArray) at0
  refine ⟨.ref s1.heap.objs.size, upd H s1.heap.objs.size (.lst (keyVs (kvs.mergeSort (dataLe b fun p => p.1.data)))), J.laid (t' := s1.toks) (fun b u e => ?_) (Nat.le_refl _) ⟨?_, out, c, vals_refs eo, hc⟩, rfl, q _ (J.hok.fresh (Nat.le_refl _))⟩
  · have lt := Heap.lt_size e
    rw [PyProof.Rows.sortedHeap_old (Nat.ne_of_lt lt) (Nat.lt_of_lt_of_le lt (by rw [size_push']; exact Nat.le_succ _))]
    exact Heap.get?_push_of_some _ e
  · unfold keyVs
    rw [List.length_map, List.length_mergeSort]
    exact hl
/-! ### sorted(d, key=f) -/
def tSortDFn (X : Cx) (sp : Sp) (t : TA) : TE := fun σ H Q => t σ H fun vs H1 => SK.TInj X.K H1 → ∃ (d : Addr) (kvs : List Ent) (g : V → Str), vs = [.ref d] ∧ Rd H1 d (DO X.prog X.w d kvs) ∧
  (∀ x ∈ keyVs kvs, ∀ H', Same H1 H' → sp [x] H' (fun v H2 => v = .str (g x) ∧ Same H' H2) (fun _ _ _ => False)) ∧ ∀ H2 p, Same H1 H2 → H1 p = none → H2 p = some (.lst ((keyVs kvs).mergeSort (SK.leG g))) → Q (.ref p) H2
theorem pe_sortedDFn {p p2 pos kpos : Pos} {e : Expr} {t : TA} {k : Nat} {f : Addr} {fd : FuncData} {pn fn : Str} {sp : Sp} (calm : X.calm = true) (F : FnOk X.prog X.w X.K X.mg X.base CX0 k f fd [pn] sp) (hr : Room (k + 2) X.A) (hb : Binds X.K fd [pn] []) (hgs : Gl X "sorted") (hms : X.mg "sorted" = none) (hgf : Gl X fn) (hmf : X.mg fn = some (.ref f)) (ha : PA X [e] t)
    (hdb : (fn == ("__debug__" : Str)) = false := by decide) (he : backTo pos (starEach [e] X.env) = (false, eval e X.env) :: backTo pos (starEach [] X.env) := by rfl) (hpl : (backTo pos (starEach [e] X.env)).any (·.1) = false := by rfl) :
    PE X (.Call (.Name "sorted" p) [e] [⟨some "key", .Name fn p2, kpos⟩] pos) (tSortDFn X sp t) := by
  refine ⟨fun pins s σ H Q I h => ?_⟩
  refine wpAny_Call_Name_kw (ld_blt I hgs hms (u := .builtin "sorted") (by decide +kernel) ?_)
  refine PyProof.Rows.callWith_kw (thn (ha.run pos pins s σ H _ I h) fun us s1 ⟨vs, H1, J, r1, q1⟩ => ?_) he hpl (by rfl) (by rfl)
  show wpAny _ _ (evalAll [do let v ← eval (.Name fn p2) X.env; standAt pos; pure v]) _ _ s1
  refine wpAny_evalAll_cons (wpAny_bind (ld_glob J hgf hmf (wpAny_bind (wpAny_standAt (wpAny_pure (wpAny_evalAll_nil ?_)))) hdb))
  obtain ⟨d, kvs, g, rfl, hd, hsp, q⟩ := q1 fun a xs ys h1 h2 => J.tuple_inj h1 h2
  have hl : (keyVs kvs).length ≤ sizeLine := by
    unfold keyVs
    rw [List.length_map]
    exact (raw_at J hd).2.1
  rw [Vals.ref1 r1]
  show wpAny _ _ (call (.builtin "sorted") [.ref d] [(Str.ofString "key", .ref f)]) _ _ _
  refine dict_sorted J hd calm (ksk_s1 _ _) (fun _ => ksk_l1 _ _) fun s2 J2 E' => ?_
  exact SK.sort_core (Q := EP X pins σ Q) J2 (fun b u e => Heap.get?_push_of_some _ e) (Nat.le_refl _) (Heap.get?_push_size _ rfl) (keyVals kvs) hl F hr hb (by have := hr.units; omega) hsp fun H2 a s3 J3 sm hn ha => ⟨.ref a, H2, J3, rfl, q H2 a sm hn ha⟩
/-! ### list(d) -/
def rListD (X : Cx) : List V → Hp → VK → Prop := fun vs H Q => ∃ (d : Addr) (kvs : List Ent), vs = [V.ref d] ∧ Rd H d (DO X.prog X.w d kvs) ∧ ∀ p, H p = none → Q (.ref p) (upd H p (.lst (keyVs kvs)))
theorem cr_listD (calm : X.calm = true) : CallR X (.type "list") (rListD X) := by
  intro pins s σ H vs us Q I r h
  obtain ⟨d, kvs, rfl, hd, q⟩ := h
  obtain rfl := Vals.ref1 r
  obtain ⟨lo, hl, es, ep, raw, sz, ent⟩ := raw_at I hd
  refine kdl_call (KdlSrc.rawDict (prog := X.prog) (w := X.w) (es := es) (ep := ep) lo) (I.ok.hd calm) raw (by rw [sz]; exact hl) fun h' tk acc c kp at0 items => ?_
  have e := items_keys sz ent items
  have at1 : h'.get? s.heap.objs.size = some { cls := .type "list", dict := none, data := .seq (keyRefs kvs).toArray c, slots := #[] } := by
    rw [at0, ← e]
  refine ⟨.ref s.heap.objs.size, upd H s.heap.objs.size (.lst (keyVs kvs)), I.laid (t' := tk) kp (Nat.le_refl _) ⟨?_, keyRefs kvs, c, keyVals kvs, at1⟩, rfl, q _ (I.hok.fresh (Nat.le_refl _))⟩
  unfold keyVs
  rw [List.length_map]
  exact hl
end
end ND
/-! zip(list, tuple) -/
namespace ZL
open PySem PySem.Spec PyProof.Rows L2
/-- the items of a list and of a tuple, side by side, in new pairs -/
def ItLT (K : PySem.W.Frag) (a b : Addr) : It :=
  ⟨fun i H => ∃ (xs ys : List V) (x y : V), SqL K H a xs ∧ SqT K H b ys ∧ xs[i]? = some x ∧ ys[i]? = some y,
    fun i H v H' => ∃ (T : Addr) (x y : V), v = .ref T ∧ H T = none ∧ H' = upd H T (.tup [x, y]) ∧ (∀ xs, SqL K H a xs → xs[i]? = some x) ∧ ∀ ys, SqT K H b ys → ys[i]? = some y,
    fun i H => ∃ xs ys : List V, SqL K H a xs ∧ SqT K H b ys ∧ i = min xs.length ys.length⟩
theorem turn_zipLT {P : Program} {w : World} {K : PySem.W.Frag} {elts : List Expr} {kk : Nat} {tpos : Pos} {z TI TO i1 i2 a b : Addr} (S : ZipSep2 z TI TO i1 i2 [i1, a] [i2, b]) (na : a ≠ i1) (nb : b ≠ i2) :
    Turn P w K (.Tuple elts kk tpos) (ItLT K a b) [z, TI, TO, i1, i2] z (fun i h => IsZip h z TI TO .none ∧ IsTupOf2 h TI (.ref i1) (.ref i2) ∧ (∃ a b, IsTupOf2 h TO a b) ∧ h.IsListIter i1 a i ∧ h.IsTupleIter i2 b i) where
  mem := by simp
  obj := fun i h st c hc => by
    obtain ⟨hz, hTI, ⟨a, b, hTO⟩, ⟨o1, e1, _, d1⟩, ⟨o2, e2, _, d2⟩⟩ := st
    have e' : c = z ∨ c = TI ∨ c = TO ∨ c = i1 ∨ c = i2 := by simpa using hc
    rcases e' with q | q | q | q | q
    · rw [q]; exact ⟨_, hz, fun v q => nomatch q⟩
    · rw [q]; exact ⟨_, hTI, fun v q => nomatch q⟩
    · rw [q]; exact ⟨_, hTO, fun v q => nomatch q⟩
    · rw [q]; exact ⟨o1, e1, fun v q => by rw [d1] at q; cases q⟩
    · rw [q]; exact ⟨o2, e2, fun v q => by rw [d2] at q; cases q⟩
  keep := fun i h h' st k => by
    obtain ⟨hz, hTI, ⟨a, b, hTO⟩, h1, h2⟩ := st
    exact ⟨k z (by simp) _ hz, k TI (by simp) _ hTI, ⟨a, b, k TO (by simp) _ hTO⟩, h1.at (fun o q => k i1 (by simp) o q), h2.at fun o q => k i2 (by simp) o q⟩
  item := by
    intro X hP hw hK hc i pins s σ H E I hf st hg
    subst hP hw hK
    obtain ⟨hz, hTI, ⟨a0, b0, hTO⟩, h1, h2⟩ := st
    obtain ⟨xs, ys, x, y, hqx, hqy, hx, hy⟩ := hg
    obtain ⟨its1, rv1, p1, _⟩ := I.list hqx
    obtain ⟨u1, hu1, ru1⟩ := rv1.get hx
    have hl1 : i < its1.toArray.size := by
      rw [List.size_toArray]
      exact (List.getElem?_eq_some_iff.mp hu1).1
    obtain ⟨its2, rv2, p2, _⟩ := I.tuple hqy
    obtain ⟨u2, hu2, ru2⟩ := rv2.get hy
    have hzl : z < s.heap.objs.size := Heap.lt_size hz
    have hl2 : i < its2.toArray.size := by
      rw [List.size_toArray]
      exact (List.getElem?_eq_some_iff.mp hu2).1
    refine wpAny_pyNext_zipD2_item S (Draws.list (A := X.A.in1) (I.ok.hd hc) i1 a na its1.toArray) (Draws.tuple (A := X.A.in1) (I.ok.hd hc) i2 b nb its2.toArray) hz hTI hTO ⟨h1, p1.isList⟩ ⟨h2, p2⟩ hl1 hl2 fun v1 v2 h' tk q1 q2 z' TO' h1' h2' hT hsz hk => ?_
    have ev1 : v1 = u1 := by
      have e : its1.toArray[i]? = some u1 := by simpa using hu1
      rw [e] at q1
      exact (Option.some.inj q1).symm
    subst ev1
    have ev : v2 = u2 := by
      have e : its2.toArray[i]? = some u2 := by simpa using hu2
      rw [e] at q2
      exact (Option.some.inj q2).symm
    subst ev
    refine ⟨_, rfl, wpAny_letOwnedTupleGo_zip (s := { s with heap := h', toks := tk }) z' fun h'' z'' sb => ?_⟩
    have hT2 : h''.get? s.heap.objs.size = some { cls := .type "tuple", data := .seq #[v1, v2] } := (sb.2 _ (Nat.ne_of_gt hzl)).trans hT
    have new : ObjOk X.prog X.w (upd H s.heap.objs.size (.tup [x, y])) h'' s.heap.objs.size (.tup [x, y]) :=
      ⟨by show 2 ≤ sizeLine; decide, [v1, v2], .cons ru1 (.cons ru2 .nil), ⟨_, hT2, rfl, _, rfl⟩⟩
    have I1 : Inv X pins σ (upd H s.heap.objs.size (.tup [x, y])) { s with heap := h'', toks := tk } :=
      I.turnedNew (t' := tk) (ch := [z, TI, TO, i1, i2]) (fun c o hb q => (sb.2 c (fun q' => hb (by simp [q']))).trans (hk c o (fun q' => hb (by simp [q'])) (fun q' => hb (by simp [q'])) (fun q' => hb (by simp [q'])) (fun q' => hb (by simp [q'])) q)) hf (Nat.le_refl _) new
    refine ⟨.ref s.heap.objs.size, _, I1, rfl, ⟨_, x, y, rfl, I.hok.fresh (Nat.le_refl _), rfl, (fun l hl => by rw [I.list_inj hl hqx]; exact hx), fun l hl => by rw [I.tuple_inj hl hqy]; exact hy⟩, ⟨z'', ?_, ⟨v1, v2, ?_⟩, h1'.1.at (fun o q => (sb.2 _ S.zi1.symm).trans q), h2'.1.at fun o q => (sb.2 _ S.zi2.symm).trans q⟩, fun b hb => ?_⟩
    · exact (sb.2 _ S.TIz).trans (hk _ _ S.TIz S.TITO S.TIi1 S.TIi2 hTI)
    · exact (sb.2 _ S.TOz).trans TO'
    · have hlt : b < s.heap.objs.size := by
        have e' : b = z ∨ b = TI ∨ b = TO ∨ b = i1 ∨ b = i2 := by simpa using hb
        rcases e' with q | q | q | q | q
        · rw [q]; exact hzl
        · rw [q]; exact Heap.lt_size hTI
        · rw [q]; exact Heap.lt_size hTO
        · rw [q]; obtain ⟨_, e1, _⟩ := h1; exact Heap.lt_size e1
        · rw [q]; obtain ⟨_, e2, _⟩ := h2; exact Heap.lt_size e2
      rw [upd_ne (Nat.ne_of_lt hlt)]
      exact (hf b hb).1
  done := by
    intro X hP hw hK hc i pins s σ H E I hf st hg
    subst hP hw hK
    obtain ⟨hz, hTI, ⟨a0, b0, hTO⟩, h1, h2⟩ := st
    obtain ⟨xs, ys, hqx, hqy, hg'⟩ := hg
    obtain ⟨its1, rv1, p1, _⟩ := I.list hqx
    have l1 : its1.toArray.size = xs.length := by rw [List.size_toArray]; exact rv1.length.symm
    obtain ⟨its2, rv2, p2, _⟩ := I.tuple hqy
    have l2 : its2.toArray.size = ys.length := by rw [List.size_toArray]; exact rv2.length.symm
    exact wpAny_pyNext_zipD2_end S (Draws.list (A := X.A.in1) (I.ok.hd hc) i1 a na its1.toArray) (Draws.tuple (A := X.A.in1) (I.ok.hd hc) i2 b nb its2.toArray) hz hTI hTO ⟨h1, p1.isList⟩ ⟨h2, p2⟩ (by omega) (by omega) (by omega) fun h' tk hk => ⟨rfl, I.turnedL (t' := tk) (ch := [z, TI, TO, i1, i2]) (fun c o hb q =>
      hk c o (fun q' => hb (by simp [q'])) (fun q' => hb (by simp [q'])) (fun q' => hb (by simp [q'])) (fun q' => hb (by simp [q'])) q) hf⟩
  self := fun A i s Q E st h => wpAny_pyIter_zip st.1 h
theorem sep_newL {n a b : Nat} (ha : a < n) (hb : b < n) : ZipSep2 (n + 4) (n + 2) (n + 3) n (n + 1) [n, a] [n + 1, b] := by
  have a0 : ¬ n = b := by omega
  have a1 : ¬ n + 1 = b := by omega
  have a2 : ¬ n + 2 = b := by omega
  have a3 : ¬ n + 3 = b := by omega
  have a4 : ¬ n + 4 = b := by omega
  have c0 : ¬ n = a := by omega
  have c1 : ¬ n + 1 = a := by omega
  have c2 : ¬ n + 2 = a := by omega
  have c3 : ¬ n + 3 = a := by omega
  have c4 : ¬ n + 4 = a := by omega
  constructor <;> simp [a0, a1, a2, a3, a4, c0, c1, c2, c3, c4] <;> omega
def iZipLT (K : PySem.W.Frag) (ta : TA) : TI := fun σ H R => ta σ H fun vs H1 => ∃ (a b : Addr) (xs ys : List V), vs = [.ref a, .ref b] ∧ SqL K H1 a xs ∧ SqT K H1 b ys ∧ R (ItLT K a b) H1
theorem pi_zipLT {X : Cx} {e e2 : Expr} {ta : TA} {p pos tpos : Pos} {elts : List Expr} {kk : Nat} (hg : Gl X "zip") (hm : X.mg "zip" = none) (ha : PA X [e, e2] ta)
    (hs : starEach [e, e2] X.env = (false, eval e X.env) :: starEach [e2] X.env := by rfl) (hpl : (backTo pos (starEach [e2] X.env)).any (·.1) = false := by rfl) :
    PI X (.Tuple elts kk tpos) (.Call (.Name "zip" p) [e, e2] [] pos) (iZipLT X.K ta) := by
  refine ⟨fun pins s σ H R I h => ?_⟩
  refine Call_ (ld_blt I hg hm PyProof.Rows.boot_zip (PyProof.Rows.callWith_type1 (thn (ha.run pos pins s σ H _ I h) fun us s1 ⟨vs, H1, I1, r1, q1⟩ => ?_) hs hpl))
  obtain ⟨a, b, xs, ys, ex, hqx, hqy, q⟩ := q1
  subst ex
  cases r1 with
  | cons r rr =>
    cases rr with
    | cons r' rr =>
      cases rr
      cases r
      cases r'
      obtain ⟨its1, rv1, p1, _⟩ := I1.list hqx
      obtain ⟨its2, rv2, p2, _⟩ := I1.tuple hqy
      have al : a < s1.heap.objs.size := by
        obtain ⟨o, ho, _⟩ := id p1.isList
        exact Heap.lt_size ho
      have bl : b < s1.heap.objs.size := by
        obtain ⟨o, ho, _⟩ := id p2
        exact Heap.lt_size ho
      refine zip_begins2 (begins_list a its1.toArray) (begins_tuple b its2.toArray) p1.isList p2 fun h' hz hTI hTO h1 h2 hsz hk => wpAny_pyIter_zip hz ?_
      have I2 : Inv X pins σ H1 { s1 with heap := h' } := I1.kept (t' := s1.toks) hk
      refine ⟨s1.heap.objs.size + 4, [s1.heap.objs.size + 4, s1.heap.objs.size + 2, s1.heap.objs.size + 3, s1.heap.objs.size, s1.heap.objs.size + 1], _, _, H1, rfl, I2, turn_zipLT (sep_newL al bl) (Nat.ne_of_lt al) (Nat.ne_of_lt (Nat.lt_succ_of_lt bl)), ⟨hz, hTI, ⟨_, _, hTO⟩, ⟨_, h1, rfl, rfl⟩, ⟨_, h2, rfl, rfl⟩⟩, fun c hcm => ?_, q⟩
      have e' : c = s1.heap.objs.size + 4 ∨ c = s1.heap.objs.size + 2 ∨ c = s1.heap.objs.size + 3 ∨ c = s1.heap.objs.size ∨ c = s1.heap.objs.size + 1 := by simpa using hcm
      have hle : s1.heap.objs.size ≤ c := by
        rcases e' with z | z | z | z | z
        · rw [z]; exact Nat.le_add_right _ _
        · rw [z]; exact Nat.le_add_right _ _
        · rw [z]; exact Nat.le_add_right _ _
        · rw [z]; exact Nat.le_refl _
        · rw [z]; exact Nat.le_add_right _ _
      exact I1.fpOk hle (I1.hok.fresh hle)
theorem walk_zipLT {K : PySem.W.Frag} {a b : Addr} {xs ys : List V} {n : Nat} (hn : n = min xs.length ys.length) : Walk (ItLT K a b) n (fun H => SqL K H a xs ∧ SqT K H b ys) (YPair (fun i => xs[i]?) (fun i => ys[i]?)) := by
  subst hn
  refine ⟨fun i _ hi q => ⟨xs, ys, xs[i]'(by omega), ys[i]'(by omega), q.1, q.2, List.getElem?_eq_getElem _, List.getElem?_eq_getElem _⟩, fun _ q => ⟨xs, ys, q.1, q.2, rfl⟩, fun i H v H' _ q y => ?_⟩
  obtain ⟨T, x, z, h1, h2, h3, h4, h5⟩ := y
  exact ⟨T, x, z, h1, h2, h3, h4 xs q.1, h5 ys q.2⟩
end ZL
/-! an own error whose __init__ begins with super().__init__(..) -/
namespace EX
open PySem PySem.Spec PyProof.Rows L2 NdefX
set_option autoImplicit false
/-- what the written part says of the class, its __init__ and the cell of its class -/
structure SupC (P : Program) (K : PySem.W.Frag) (C fI cc : Addr) (F : NF) : Prop where
  oex : OexC K C
  cl : F.cl = [(("__class__" : Str), cc)]
  cd : PySem.W.codeIn K (.ref F.c) F.qual = true
  code : ∃ (ccl : Value) (cdd : Option Addr) (vs : Array Value) (ccs : Array (Option Value)) (file : Str) (tf : Tok), K.lookup F.c = some (⟨ccl, cdd, .fields vs, ccs⟩ : Obj) ∧ vs[2]? = some (Value.str file tf) ∧ ((P.main.file : Str) == file) = true
  cell : ∃ (cl : Value) (cld : Option Addr) (csl : Array (Option Value)), K.lookup cc = some (⟨cl, cld, .cell (some (.ref C)), csl⟩ : Obj)
  top : (P.main.scope.names.lookup ("super" : Str)).isSome = false
  opq : PySem.W.nsIn K cStatics "thirdparty.any" = some none
  ini : PySem.W.ks_superIn K C C "__init__" = some (some (.builtin "ValueError.__init__"))
  ve : PySem.W.subIn K (.ref C) (.type "ValueError") = some true
  own : PySem.W.mroIn K C (.ref C) = some true
section
variable {X : Cx} {pins : List (Addr × Obj)} {σ : L2.St} {H : Hp} {s : Shared}
/-- the bound __init__ is called -/
theorem call_mw {A : Around} {E : Value → Shared → Prop} {a C u : Addr} {us : List Value} {Q : Value → Shared → Prop} (T : OexC X.K C) (I : Inv X pins σ H s) (e : H a = some (exo a C none)) (hu : s.heap.get? u = some (PySem.W.kxs_mw "ValueError.__init__" a)) (hl : us.length ≤ sizeLine) (h : ∀ s', Inv X pins σ H s' → Q .none s') :
    wpAny (model X.prog X.w) A (call (.ref u) us) Q E s := by
  obtain ⟨nm, q, N, bs, bm, sn, sub, ab, col, dd, k0, k1, k2, k3, k5, hC, hbm⟩ := T.cls
  have hC' := I.kIn _ _ hC
  obtain ⟨t1, ho⟩ := exo_at I.hok e
  obtain ⟨hp, g, d, t, os⟩ := s
  refine wpAny_call (codeAny_of_tree ?_)
  show wpAny _ A.in1 (callAny (.ref u) ⟨us, []⟩) _ _ _
  simp only [callAny]
  refine wpAny_bind (wpAny_load hu ?_)
  simp only [PySem.W.kxs_mw, show (Value.type "method-wrapper" == Value.type "method" || Value.type "method-wrapper" == Value.type "builtin_function_or_method" || Value.type "method-wrapper" == Value.type "method-wrapper") = true by decide, if_true]
  refine PySem.W.KFB.if_so (by decide) ?_
  refine wpAny_bind (PySem.W.check_bound_init F.excBase_ValueError.toExcCallFacts hC' ho rfl ?_)
  refine wpAny_bind (wpAny_pure (wpAny_pure ?_))
  refine ⟨plainId_quiet F.excBase_ValueError.init.plain _, codeAny_builtin F.excBase_ValueError.initEntry ?_⟩
  refine PySem.W.exc_init_tree (cls := .ref C) (t0 := t1) (dv := none) (c2 := .none) (c3 := .none) (b4 := .bool false) ho hl fun h' k hx _ => ?_
  have J := I.write (t' := t) (x := a) (e := a) (o := exo a C none) (by rw [e]; exact True.intro) (.inl rfl) k ⟨_, hx⟩ (exo_ok hx)
  have eu : upd H a (exo a C none) = H := by
    funext b
    by_cases hb : b = a
    · rw [hb, upd_same, e]
    · rw [upd_ne hb]
  rw [eu] at J
  exact h _ J
/-- THE RULE: an __init__ of an own error, its first statement super().__init__(msg) -/
theorem sup_ok {CX : CXT} {P : Program} {w : World} {K : PySem.W.Frag} {mg : Str → Option Value} {base : Heap} {k : Nat} {C fI cc : Addr} {F : NF} {N : List Str} {fl : Str} {msg : Expr} {rest : List Stmt} {p0 p1 p2 p3 p4 : Pos} {oc doc pm ctv : Value} {od : Option Addr} {osl : Array (Option Value)} {ar : Arg} {sp : Sp} {pl : Addr → Sem Bool}
    (T : SupC P K C fI cc F) (lk : K.lookup fI = some ⟨oc, od, .func (F.fd doc pm ctv), osl⟩) (hm : mg "super" = none) (S : NScope N ["self", fl] ["__class__"] F.scope)
    (hbody : F.body = .Expr (.Call (.Attribute (.Call (.Name "super" p0) [] [] p1) "__init__" p2) [msg] [] p3) p4 :: rest)
    (hpar : (F.params.posonlyargs ++ F.params.args).head? = some ar) (har : ar.arg = "self") (hks : F.scope.names.lookup ("super" : Str) = some .globalImplicit)
    (len : ∀ vs H Q E, sp vs H Q E → vs.length = 2)
    (h : ∀ (A : Around) (outer : List Env) (s : Shared) (H : Hp) (vs : List V) (Q : VK) (E : XK), Room k (A.deeper (envF F fI s.heap.objs.size)) → sp vs H Q E →
      ∃ (a : Addr) (y : V) (tm : TE) (t2 : TS), vs = [.ref a, y] ∧ H a = some (exo a C none) ∧ PE (ncx CX P w K mg base N F fI A outer s H E) msg tm ∧ PSs (ncx CX P w K mg base N F fI A outer s H E) rest t2 ∧
        tm (startF N vs [none]) H fun v H1 => [v].length = 1 ∧ H1 a = some (exo a C none) ∧ t2 { nx := fun _ H' => Q .non H', rt := Q } (startF N vs [none]) H1)
    (he : ∀ L : Addr, eval (.Call (.Attribute (.Call (.Name "super" p0) [] [] p1) "__init__" p2) [msg] [] p3) (envF F fI L) = (do
      let ov ← attributeBase (.Call (.Name "super" p0) [] [] p1) "__init__" (envF F fI L) (eval (.Call (.Name "super" p0) [] [] p1) (envF F fI L))
      standAt p2.atName
      let (f, first) ← holding [ov] (getMethod ov "__init__" (pl L))
      callWith p3 f first (backTo p3 (starEach [msg] (envF F fI L))) []))
    (hst : ∀ L : Addr, starEach [msg] (envF F fI L) = (false, eval msg (envF F fI L)) :: starEach [] (envF F fI L))
    (hsw : ∀ L : Addr, swapsWith (.Call (.Attribute (.Call (.Name "super" p0) [] [] p1) "__init__" p2) [msg] [] p3) none p4.line (envF F fI L) = pure false) :
    FnOk P w K mg base CX (k + 1) fI (F.fd doc pm ctv) ["self", fl] sp := by
  refine ⟨len, fun A outer s H args us vs Q E hr e0 hb r hsp => ?_⟩
  have hl := len _ _ _ _ hsp
  have KX : K.In s.heap := e0.mod.kin.keeps fun b o e => (e0.bs b o e).1
  have lim : s.heap.NoLimit := e0.mod.nolimit.keeps fun b o e => (e0.bs b o e).1
  obtain ⟨ccl, cdd, vsC, ccs, file, tf, hcode, hvs, hfile⟩ := T.code
  obtain ⟨cl1, cld, csl, hcell⟩ := T.cell
  have hcl : F.cl.lookup ("__class__" : Str) = some cc := by rw [T.cl]; rfl
  have hclA : ∀ y c, F.cl.lookup y = some c → y = ("__class__" : Str) ∧ c = cc := fun y c e => by
    rw [T.cl] at e
    by_cases hy : y = ("__class__" : Str)
    · subst hy
      exact ⟨rfl, (Option.some.inj e).symm⟩
    · have hb : (y == ("__class__" : Str)) = false := beq_false_of_ne hy
      simp only [List.lookup, hb] at e
      cases e
  have CA : CellsAt F.cl ["__class__"] [none] s.heap H := {
    len := rfl
    all := fun y c e => by
      obtain ⟨_, rfl⟩ := hclA y c e
      have hbk := e0.mod.kin _ _ hcell
      exact ⟨(e0.bs _ _ hbk).2, _, _, (e0.bs _ _ hbk).1, rfl⟩
    inj := fun x y c e1 e2 => (hclA x c e1).1.trans (hclA y c e2).1.symm
    has := fun i y e => by
      cases i with
      | zero =>
        have ey : y = ("__class__" : Str) := (Option.some.inj e).symm
        subst ey
        exact ⟨cc, hcl, fun v ev => by cases ev⟩
      | succ i => cases e }
  refine codeAny_call_function hr.depth (KX _ _ lk) rfl S.co S.gen rfl (PySem.W.codeRec_of KX T.cd) (hb _ _ _ _ ?_)
  refine wpAny_newFunctionEnv S.nocell (fun ⟨n, _⟩ hy => S.par n (List.of_mem_zip hy).1) (fun h₁ hns hsb => ⟨lim.fresh _ hsb, ?_⟩) S.kind
  show codeAny _ _ (.func F.body (envF F fI s.heap.objs.size)) _ _
  refine ks_codeAny_funcAt ?_
  have kp : ∀ b o, s.heap.get? b = some o → h₁.get? b = some o := fun b o e => hsb.extBut b o (Nat.ne_of_lt (Heap.lt_size e)) (Heap.get?_push_of_some _ e)
  obtain ⟨a, y, tm, t2, ev, ha, hm1, h2, hq⟩ := h A outer s H vs Q E (hr.deeper _) hsp
  have I : Inv (ncx CX P w K mg base N F fI A outer s H E) [] (startF N vs [none]) H { s with heap := h₁, toks := s.toks + (([("self" : Str), fl] : List Str).zip us).length } := inv_startN S hr.hd e0 hl r CA hns kp
  generalize hs1 : ({ s with heap := h₁, toks := s.toks + (([("self" : Str), fl] : List Str).zip us).length } : Shared) = s1 at I ⊢
  have KX1 : K.In s1.heap := I.kIn
  obtain ⟨nm, q, NN, bs, bm, sn, sub, ab, col, dd, k0, k1, k2, k3, k5, hC, hbm⟩ := T.oex.cls
  have hC1 := KX1 _ _ hC
  obtain ⟨t1, ho⟩ := exo_at I.hok ha
  have hne : a ≠ C := fun e => by
    rw [e, hC1] at ho
    cases ho
  rw [show execs F.body (envF F fI s.heap.objs.size) = execs (.Expr (.Call (.Attribute (.Call (.Name "super" p0) [] [] p1) "__init__" p2) [msg] [] p3) p4 :: rest) (envF F fI s.heap.objs.size) by rw [hbody]]
  refine ks_wpAt_execs_cons (ks_wpAt_Expr_any (ks_wpAt_MethodCall (pl := pl s.heap.objs.size) (ks_wpAt_super_base (env := envF F fI s.heap.objs.size) hks (S.frk "__class__" (List.mem_singleton.mpr rfl)) (by decide) rfl (KX1 _ _ lk) rfl hpar rfl (KX1 _ _ hcode) rfl hvs hfile T.top ?_) (he _)) I.quiet (hsw _))
  obtain ⟨mb, hb1, hb2⟩ := I.mod.blt
  refine PySem.W.ks_loadName_global S.kind hks (PySem.Calls.loadGlobal_builtin (I.mod.glob.keeps I.bk) hm (hb1.keeps I.bk) ((hb2 "super" (by decide)).trans (by decide +kernel : bootBuiltins "super" = some (.type "super"))) ⟨rfl, ?_⟩)
  refine wpAny_loadName_free S.kind (S.frk "__class__" (List.mem_singleton.mpr rfl)) hcl ⟨_, KX1 _ _ hcell, rfl⟩ ?_
  rw [har]
  have hself : F.scope.names.lookup ("self" : Str) = some .local := S.par "self" (List.mem_cons_self ..)
  obtain ⟨m, hnsM, hsl⟩ := I.loc
  have hN0 : N[(0 : Nat)]? = some ("self" : Str) := by
    have e := S.pre
    cases N with
    | nil => cases e
    | cons n N =>
      have e2 : n :: N.take 2 = ("self" : Str) :: [fl, "__class__"] := e
      rw [List.cons.injEq] at e2
      rw [e2.1]
      rfl
  have hms : m ("self" : Str) = some (.ref a) := by
    obtain ⟨u, ru, lu⟩ := hsl 0 "self" (.ref a) hN0 (by rw [ev]; rfl) (.inl hself)
    obtain rfl : u = Value.ref a := ru
    rcases lu with lu | ⟨lu, _⟩
    · exact lu.2
    · rw [show (ncx CX P w K mg base N F fI A outer s H E).env.kindOf "self" = some .local from hself] at lu
      rcases lu with z | z <;> cases z
  refine wpAny_loadName_local S.kind hself hnsM hms ?_
  obtain ⟨hp1, g1, d1, tk1, os1⟩ := s1
  refine ks_wpAny_isType_cls hC1 rfl ⟨rfl, ?_⟩
  refine ks_wpAny_call_super hC1 rfl ho rfl (fun c e => by cases e) (PySem.W.looks_mroIn KX1 T.own) (fun h' e kk => ?_)
  have I2 := I.kept (t' := tk1) kk
  have KX2 : K.In h' := I2.kIn
  have hC2 := KX2 _ _ hC
  have ho2 := kk _ _ ho
  have hcls : PySem.W.clsIn K C = some { name := nm, bases := bs, mro := .ref C :: bm, ns := NN, qualname := q, hasDict := true, slotNames := sn, subclasses := sub, abstract := ab, collection := col, hasDel := false } := by
    unfold PySem.W.clsIn
    rw [hC] <;> rfl
  have hini := T.ini
  unfold PySem.W.ks_superIn at hini
  rw [hcls, Option.bind_some] at hini
  have Ia : PySem.W.InstAt h' a _ C none := ⟨ho2, rfl, rfl, trivial⟩
  refine PySem.W.kxs_getMethod PySem.W.kxs_ValueError e (PySem.W.looks_opaque KX2 T.opq) (l₀ := .ref C :: bm) (fun A Q E s k q => wpAny_bind ((PySem.W.looks_clsIn KX2 hcls) A _ E s k (wpAny_pure q))) rfl KX2 hini (Ia.type.andThen (PySem.W.looks_subIn KX2 T.ve)) hne (by decide) ?_
  have kp3 : ∀ b o, h'.get? b = some o → (h'.push (PySem.W.kxs_mw "ValueError.__init__" a)).get? b = some o := fun b o e => Heap.get?_push_of_some _ e
  have I3 := I2.kept (h' := h'.push (PySem.W.kxs_mw "ValueError.__init__" a)) (t' := tk1 + 1) kp3
  have hu3 : (h'.push (PySem.W.kxs_mw "ValueError.__init__" a)).get? h'.objs.size = some (PySem.W.kxs_mw "ValueError.__init__" a) := Heap.get?_push_at rfl rfl
  have I4 : Inv (ncx CX P w K mg base N F fI A outer s H E) [(h'.objs.size, PySem.W.kxs_mw "ValueError.__init__" a)] (startF N vs [none]) H _ := I3.pins_of fun p hp => by
    rw [List.mem_singleton.mp hp]
    exact ⟨hu3, I2.hok.fresh (Nat.le_refl _), Nat.ne_of_gt I2.lt, I2.nofs (Nat.le_refl _), fun v z => by cases z⟩
  have ha1 : PA (ncx CX P w K mg base N F fI A outer s H E) [msg] _ := pa_cons hm1 pa_nil (hst _)
  have hst' := hst s.heap.objs.size
  refine PySem.W.kxs_callWith (i := "ValueError.__init__") (x := a) (by rw [hst']; rfl) ?_
  rw [hst']
  refine PySem.Calls.evalArgs_plain ?_
  have hrun := ha1.run p3 _ _ (startF N vs [none]) H (fun vs' H1 => vs'.length = 1 ∧ H1 a = some (exo a C none) ∧ t2 { nx := fun _ H' => Q .non H', rt := Q } (startF N vs [none]) H1) I4 ?_
  · have hst2 : backTo p3 (starEach [msg] (ncx CX P w K mg base N F fI A outer s H E).env) = backTo p3 ((false, eval msg (envF F fI s.heap.objs.size)) :: starEach [] (envF F fI s.heap.objs.size)) := congrArg (backTo p3) hst'
    rw [hst2] at hrun
    refine wpAny_mono hrun (fun ws s2 hw => ?_) fun e s' he => he
    obtain ⟨vs', H1, J, rv, hlen, ha2, hq2⟩ := hw
    have hu := (J.pin _ (List.mem_append_right _ (List.mem_singleton.mpr rfl))).1
    refine ⟨hu, ?_⟩
    have J0 : Inv (ncx CX P w K mg base N F fI A outer s H E) [] (startF N vs [none]) H1 s2 := J.pins_of fun p hp => by cases hp
    refine call_mw T.oex J0 ha2 hu (by
      show ws.length ≤ _
      rw [← rv.length, hlen, sizeLine_eq]; decide) fun s3 J3 => ?_
    refine wpAt_of_wpAny ?_
    refine wpAny_mono (h2.run [] s3 _ H1 _ J3 hq2) (fun fl s' hs => ?_) fun e s' hs => hs
    have fin : ∀ {σ' : L2.St} {H' : Hp} {v : V} {u : Value}, Inv (ncx CX P w K mg base N F fI A outer s H E) [] σ' H' s' → L2.RelV v u → Q v H' → CE outer P w H s Q u s' :=
      fun {σ' H' v u} J rv q => ⟨v, H', J.os, J.bare, J.base, J.hok, rv, q⟩
    cases fl with
    | ret u =>
      obtain ⟨v, σ', H', J, rv, q⟩ := hs
      exact fin J rv q
    | next =>
      obtain ⟨σ', H', J, q⟩ := hs
      exact fin (v := V.non) (u := Value.none) J rfl q
    | brk =>
      obtain ⟨_, _, _, q⟩ := hs
      exact False.elim q
    | cont =>
      obtain ⟨_, _, _, q⟩ := hs
      exact False.elim q
  · exact hq
end
end EX
/-! own errors: made, their fields, isinstance of them -/
namespace EX
open PySem PySem.Spec PyProof.Rows L2 NdefX
set_option autoImplicit false
section
variable {X : Cx}
/-- {x}: a text, an int or None, as a text that is not told -/
def MsgOk (x : V) : Prop := (∃ y : Str, x = .str y ∧ y.length ≤ 1000) ∨ (∃ i : Int, x = .int i ∧ i.natAbs.log2 < 1920) ∨ x = .non
def tFmtN (te : TE) : TE := fun σ H Q => te σ H fun x H1 => MsgOk x ∧ ∀ y : Str, y.length ≤ 10000 → Q (.str y) H1
theorem int_text {i : Int} (h : i.natAbs.log2 < 1920) : (Str.ofString (toString i)).length ≤ 10000 := by
  have e := int_text_length_le (k := 1920) (by decide) h
  rw [PySem.ofString_length]
  omega
theorem pe_fmtN {e : Expr} {te : TE} {pos : Pos} (he : PE X e te) : PE X (.FormattedValue e (-1) none pos) (tFmtN te) := by
  refine ⟨fun pins s σ H Q I h => ?_⟩
  refine wpAny_FormattedValue_plain (thn (he.run pins s σ H _ I h) fun v s1 hv => ?_)
  obtain ⟨x, H1, I1, r1, q, k⟩ := hv
  rcases q with ⟨y, rfl, hz⟩ | ⟨i, rfl, hz⟩ | rfl
  · obtain ⟨t, rfl⟩ := r1
    have q := k y (by omega)
    exact wpAny_formatField_str ⟨.str y, H1, I1, ⟨t, rfl⟩, q⟩ ⟨.str y, H1, I1.tok _, ⟨_, rfl⟩, q⟩ (by rw [sizeLine_eq]; omega)
  · obtain ⟨t, rfl⟩ := r1
    exact wpAny_formatField_int hz ⟨.str (toString i), H1, I1.tok _, ⟨_, rfl⟩, k _ (int_text hz)⟩
  · obtain rfl : v = Value.none := r1
    exact wpAny_formatField_none ⟨.str "None", H1, I1.tok _, ⟨_, rfl⟩, k "None" (by decide)⟩
/-- one argument, its end weakened -/
theorem pa_one {e : Expr} {te : TE} (he : PE X e te) (hs : starEach [e] X.env = (false, eval e X.env) :: starEach [] X.env := by rfl) : PA X [e] (fun σ H Q => ∃ Q0 : VK, te σ H Q0 ∧ ∀ y H1, Q0 y H1 → Q [y] H1) := by
  have h1 : PA X [e] _ := pa_cons he pa_nil hs
  refine ⟨fun pos pins s σ H Q I h => ?_⟩
  obtain ⟨Q0, h0, k⟩ := h
  have h2 := h1.run pos pins s σ H (fun vs H1 => ∃ y, vs = [y] ∧ Q0 y H1) I ?_
  · refine thn h2 fun us s1 hh => ?_
    obtain ⟨vs, H1, J, rv, y, rfl, q⟩ := hh
    exact ⟨[y], H1, J, rv, k y H1 q⟩
  · have e2 : (fun (x : V) (H1 : Hp) => ∃ y, [x] = [y] ∧ Q0 y H1) = Q0 := by
      funext x H1
      exact propext ⟨fun ⟨y, e, q⟩ => by cases e; exact q, fun q => ⟨x, rfl, q⟩⟩
    show te σ H (fun (x : V) (H1 : Hp) => ∃ y, [x] = [y] ∧ Q0 y H1)
    rw [e2]
    exact h0
end
/-! ### the class -/
def oexB (K : PySem.W.Frag) (C : Addr) : Bool := match K.lookup C with
  | some ⟨.type "type", _, .cls cd, sl⟩ => (match cd.mro, sl.toList with
    | .ref C' :: bm, [_, _, _, _, some (.builtin n), _] => C' == C && n == "ValueError.__new__" && !cd.hasDel && cd.hasDict && PySem.HandSPX.refsVE bm
    | _, _ => false)
  | _ => false
theorem oexB_ok {K : PySem.W.Frag} {C : Addr} (q : oexB K C = true) : ∃ nm q N bs bm sn sub ab col dd k0 k1 k2 k3 k5, K.lookup C = some (excClassObj nm q C N bs bm true sn sub ab col dd k0 k1 k2 k3 k5 "ValueError.__new__") ∧ PySem.HandSPX.refsVE bm = true := by
  unfold oexB at q
  split at q
  · rename_i dd cd sl ho
    split at q
    · rename_i C' bm k0 k1 k2 k3 n k5 hm hs
      simp only [Bool.and_eq_true, beq_iff_eq, Bool.not_eq_true'] at q
      obtain ⟨⟨⟨⟨rfl, rfl⟩, hdel⟩, hh⟩, ht⟩ := q
      obtain ⟨nm, bs, mro, ns, qn, hd, sn, sub, ab, col, del⟩ := cd
      dsimp only at hm hdel hh
      subst hm hdel hh
      have hsl : sl = #[k0, k1, k2, k3, some (.builtin "ValueError.__new__"), k5] := by
        obtain ⟨l⟩ := sl
        simp only at hs
        rw [hs]
      subst hsl
      exact ⟨nm, qn, ns, bs, bm, sn, sub, ab, col, dd, k0, k1, k2, k3, k5, ho, ht⟩
    · cases q
  · cases q
/-- an own error's class -/
structure ErrC (K : PySem.W.Frag) (C : Addr) : Prop where
  oex : OexC K C
  xf : XfC K C
  ha : PySem.W.findIn K (.ref C) "__class__" = some (some (.builtin "object.__class__"))
  hn : PySem.W.specialIn K (.builtin "object.__class__") "__get__" = some (some (.builtin "getset_descriptor.__get__"))
  ht : PySem.W.takesIn K (.builtin "object.__class__") = some true
  hm : PySem.W.mroIn K C (.type "object") = some true
def errB (K : PySem.W.Frag) (C : Addr) : Bool := oexB K C && (decide (PySem.W.findIn K (.ref C) "__setattr__" = some (some (.builtin "object.__setattr__"))) && (decide (PySem.W.subIn K (.ref C) (.type "BaseException") = some true) && (decide (PySem.W.typeIn K (.ref C) = some (.type "type")) && (PySem.W.keepIn K (.ref C) && (xfB K C &&
  (decide (PySem.W.findIn K (.ref C) "__class__" = some (some (.builtin "object.__class__"))) && (decide (PySem.W.specialIn K (.builtin "object.__class__") "__get__" = some (some (.builtin "getset_descriptor.__get__"))) && (decide (PySem.W.takesIn K (.builtin "object.__class__") = some true) && decide (PySem.W.mroIn K C (.type "object") = some true)))))))))
theorem errB_ok {K : PySem.W.Frag} {C : Addr} (h : errB K C = true) : ErrC K C := by
  unfold errB at h
  simp only [Bool.and_eq_true, decide_eq_true_eq] at h
  obtain ⟨h1, h2, h3, h4, h5, h6, h7, h8, h9, h10⟩ := h
  exact ⟨⟨oexB_ok h1, h2, h3, h4, h5⟩, xfB_ok h6, h7, h8, h9, h10⟩
/-! ### a caught error: its fields, isinstance -/
def tXfE (K : PySem.W.Frag) (a : Addr) (cls : Value) (d : Option Addr) (f : Str) (te : TE) : TE := fun σ H Q => te σ H fun x H1 => ∃ C : Addr, x = .ref a ∧ cls = .ref C ∧ ErrC K C ∧ PySem.W.findIn K (.ref C) f = some none ∧ ∃ (dd : Addr) (fs : List (Str × V)) (v : V), d = some dd ∧ H1 dd = some (.xd fs) ∧ fs.lookup f = some v ∧ Q v H1
theorem pe_xfE {X : Cx} {a : Addr} {oe : Obj} {cls : Value} {d : Option Addr} {pn : List (Addr × Obj)} {e : Expr} {te : TE} {pos : Pos} {n : Str}
    (hz : Zc cls d oe) (hf : ∃ vs, oe.data = .fields vs) (he : PE (X.suite a ((a, oe) :: pn)) e te) (hb : attributeBase e n X.env (eval e X.env) = eval e X.env := by rfl) :
    PE (X.suite a ((a, oe) :: pn)) (.Attribute e n pos) (tXfE X.K a cls d n te) := by
  refine ⟨fun pins s σ H Q I h => ?_⟩
  refine attr_of hb (thn (he.run pins s σ H _ I h) fun u s1 hh => ?_)
  obtain ⟨x, H1, I1, rx, C, ex, ec, T, hno, dd, fs, v, ed, ea, l, q⟩ := hh
  subst ex
  obtain rfl : u = Value.ref a := rx
  subst ec
  subst ed
  obtain ⟨ha, _⟩ := I1.pin (a, oe) (List.mem_append_left _ List.mem_cons_self)
  obtain ⟨vs, hd⟩ := hf
  have hx : ObjOk X.prog X.w H1 s1.heap dd (.xd fs) := I1.hok dd _ ea
  obtain ⟨mA, hns, hr⟩ := hx
  obtain ⟨od, ho, hl⟩ := lookIn_ns hns
  obtain ⟨u, hu, ru⟩ := RelO.some_of (v := v) (o := mA n) (by rw [← l]; exact hr n)
  have J : PySem.W.InstAt s1.heap a oe C (some od) := ⟨ha, hz.1, by unfold PySem.W.notCls; rw [hd] <;> rfl, by rw [hz.2]; exact ho⟩
  exact HandSPX.exc_get I1.kIn J T.xf.ga T.xf.gg T.xf.exC (PySem.W.findObj_own T.xf.hdC hno rfl (by rw [hl, hu])) (handed_of ru) ⟨v, H1, I1.tok _, ru, q⟩
theorem kit_err {K : PySem.W.Frag} {C x : Addr} {ox : Obj} {od : Option Obj} (T : ErrC K C) : PySem.W.KitX K (.ref x) (.ref C) (fun h => PySem.W.InstAt h x ox C od) := by
  have hf : PySem.W.findObj K C od "__class__" = some (.bind (.builtin "getset_descriptor.__get__") (.builtin "object.__class__")) := PySem.W.findObj_dataE (by obtain ⟨cd, hc, _⟩ := PySem.W.any_some T.xf.hdC; rw [hc]; rfl) T.ha T.hn T.ht
  exact {
    ty := fun _ _ _ I => I.type
    it := fun _ _ X _ => by
      obtain ⟨cdD, hcD, _⟩ := PySem.W.any_some T.xf.hdC
      unfold PySem.W.clsIn at hcD
      split at hcD
      · rename_i c' d' cd' sl' ho
        intro A' Q' E' s' k q
        unfold isType loadHead
        exact wpAny_bind (wpAny_loadPart (k _ _ (X _ _ ho)) (wpAny_pure q))
      · cases hcD
    ne := fun h tp dd its n sl X htp => by
      obtain ⟨cdD, hcD, _⟩ := PySem.W.any_some T.xf.hdC
      refine Bool.eq_false_iff.mpr fun q => ?_
      have e : C = tp := Value.ref.inj (beq_iff_eq.mp q)
      subst e
      unfold PySem.W.clsIn at hcD
      split at hcD
      · rename_i c' d' cd' sl' ho
        have z := (X _ _ ho).symm.trans htp
        cases z
      · cases hcD
    ca := fun X I k => PySem.W.kx_classE X I T.xf.ga T.xf.gg T.xf.exC hf T.hm k }
/-- isinstance(e, c), e the exception that the suite holds -/
def rIsX (K : PySem.W.Frag) (a : Addr) (cls : Value) (d : Option Addr) : List V → Hp → VK → Prop := fun xs H Q => ∃ (C : Addr) (c : V) (cv : Value) (b : Bool), xs = [.ref a, c] ∧ cls = .ref C ∧ ErrC K C ∧ (∀ dd, d = some dd → ∃ fs, H dd = some (.xd fs)) ∧ (∀ u, RelV c u → u = cv) ∧ PySem.W.kitOne K (.ref C) cv = some b ∧ Q (.bl b) H
theorem inst_err {X : Cx} {pins pn : List (Addr × Obj)} {σ : L2.St} {H : Hp} {s : Shared} {a C : Addr} {oe : Obj} {d : Option Addr} (I : Inv (X.suite a ((a, oe) :: pn)) pins σ H s) (hz : Zc (.ref C) d oe) (hf : ∃ vs, oe.data = .fields vs) (hd : ∀ dd, d = some dd → ∃ fs, H dd = some (.xd fs)) : ∃ od, PySem.W.InstAt s.heap a oe C od := by
  obtain ⟨hget, _⟩ := I.pin (a, oe) (List.mem_append.mpr (.inl List.mem_cons_self))
  obtain ⟨vs, hv⟩ := hf
  cases d with
  | none => exact ⟨none, hget, hz.1, by unfold PySem.W.notCls; rw [hv] <;> rfl, by rw [hz.2]; trivial⟩
  | some dd =>
    obtain ⟨fs, e⟩ := hd dd rfl
    have hx : ObjOk X.prog X.w H s.heap dd (.xd fs) := I.hok dd _ e
    obtain ⟨mA, hns, hr⟩ := hx
    obtain ⟨od, ho, hl⟩ := lookIn_ns hns
    exact ⟨some od, hget, hz.1, by unfold PySem.W.notCls; rw [hv] <;> rfl, by rw [hz.2]; exact ho⟩
theorem call_isX {X : Cx} {a : Addr} {oe : Obj} {cls : Value} {d : Option Addr} {pn : List (Addr × Obj)} (hz : Zc cls d oe) (hf : ∃ vs, oe.data = .fields vs) : CallR (X.suite a ((a, oe) :: pn)) (.builtin "isinstance") (rIsX X.K a cls d) := by
  intro pins s σ H xs us Q I r h
  obtain ⟨C, c, cv, b, rfl, rfl, T, hd, hcv, e, q⟩ := h
  cases r with
  | cons rx rr =>
    cases rr with
    | cons rt rr =>
      cases rr
      cases rx
      have ec := hcv _ rt
      subst ec
      obtain ⟨od, J⟩ := inst_err I hz hf hd
      exact PySem.W.kia_one (kit_err T) I.kIn J e (fun z => nomatch z) fun tk => ⟨.bl b, H, I.kept (t' := tk) fun _ _ z => z, rfl, q⟩
/-- isinstance(e, (c, ..)) -/
def rIsXT (K : PySem.W.Frag) (a : Addr) (cls : Value) (d : Option Addr) : List V → Hp → VK → Prop := fun xs H Q => ∃ (C t : Addr) (cs : List V) (cvs : List Value) (b : Bool), xs = [.ref a, .ref t] ∧ cls = .ref C ∧ ErrC K C ∧ (∀ dd, d = some dd → ∃ fs, H dd = some (.xd fs)) ∧ H t = some (.tup cs) ∧ (∀ us, Vals cs us → us = cvs) ∧ PySem.W.kitAny K (.ref C) cvs = some b ∧ Q (.bl b) H
theorem call_isXT {X : Cx} {a : Addr} {oe : Obj} {cls : Value} {d : Option Addr} {pn : List (Addr × Obj)} (hz : Zc cls d oe) (hf : ∃ vs, oe.data = .fields vs) : CallR (X.suite a ((a, oe) :: pn)) (.builtin "isinstance") (rIsXT X.K a cls d) := by
  intro pins s σ H xs us Q I r h
  obtain ⟨C, t, cs, cvs, b, rfl, rfl, T, hd, ht, hcv, e, q⟩ := h
  cases r with
  | cons rx rr =>
    cases rr with
    | cons rt rr =>
      cases rr
      cases rx
      cases rt
      obtain ⟨od, J⟩ := inst_err I hz hf hd
      have hx : ObjOk X.prog X.w H s.heap t (.tup cs) := I.hok t _ ht
      obtain ⟨hl, its, hv, ⟨oc, od', dt, sl⟩, ho, hc, n, hd2⟩ := hx
      dsimp only at hc hd2
      subst hc hd2
      have eI := hcv _ hv
      subst eI
      exact PySem.W.kia_tup (kit_err T) I.kIn J ho e (fun z => nomatch z) fun tk => ⟨.bl b, H, I.kept (t' := tk) fun _ _ z => z, rfl, q⟩
/-! ### an error is made -/
/-- what __init__ promises -/
def spErr (C : Addr) (fl : Str) (ok : V → Prop) : Sp := fun vs H Q _ => ∃ (a : Addr) (y : V), vs = [.ref a, y] ∧ H a = some (exo a C none) ∧ ok y ∧ ∀ dx, H dx = none → dx ≠ a → Q .non (upd (upd H dx (exd dx [(fl, y)])) a (exo a C (some dx)))
/-- C(e): the class, its dict with the one field -/
def tMkE (C : Addr) (fl : Str) (ok : V → Prop) (te : TE) : L2.St → Hp → XK → Prop := fun σ H Q => te σ H fun y H1 => ok y ∧ ∀ d, H1 d = none → Q (.ref C) (some d) (upd H1 d (.xd [(fl, y)]))
theorem pmk_err {X : Cx} {x fl : Str} {ok : V → Prop} {C fI : Addr} {fd : FuncData} {k : Nat} {e : Expr} {te : TE} {p pos : Pos} (T : ErrC X.K C) (iC : PySem.W.findIn X.K (.ref C) "__init__" = some (some (.ref fI))) (tI : PySem.W.typeIn X.K (.ref fI) = some (.type "function"))
    (F1 : FnOk X.prog X.w X.K X.mg X.base CX0 k fI fd ["self", fl] (spErr C fl ok)) (hr : Room (k + 1) X.A) (hb : Binds X.K fd ["self", fl] []) (hg : Gl X x) (hm : X.mg x = some (.ref C)) (he : PE X e te)
    (hdb : (x == ("__debug__" : Str)) = false := by decide) (hs : starEach [e] X.env = (false, eval e X.env) :: starEach [] X.env := by rfl) : PMk X (.Call (.Name x p) [e] [] pos) (tMkE C fl ok te) := by
  intro pins s σ H Q I h
  have h0 := pmk_oex (p := p) (pos := pos) T.oex iC tI F1 hr hb .nil pass0 hg hm (pa_one he hs) hdb hs (by rfl)
  refine h0 pins s σ H Q I ⟨_, h, fun y H1 ⟨oky, k⟩ => ⟨by show 1 ≤ 1000; decide, fun a na => ⟨a, y, rfl, upd_same, oky, fun dx ndx ne => ?_⟩⟩⟩
  have n1 : H1 dx = none := by
    rw [upd_ne ne] at ndx
    exact ndx
  refine ⟨rfl, dx, [(fl, y)], upd_same, (upd_ne ne).trans upd_same, n1, ?_⟩
  have eh : upd (del (upd (upd (upd H1 a (exo a C none)) dx (exd dx [(fl, y)])) a (exo a C (some dx))) a) dx (.xd [(fl, y)]) = upd H1 dx (.xd [(fl, y)]) := by
    funext b
    by_cases h1 : b = dx
    · rw [h1, upd_same, upd_same]
    · rw [upd_ne h1, upd_ne h1]
      by_cases h2 : b = a
      · rw [h2, del_same, na]
      · rw [del_ne h2, upd_ne h2, upd_ne h1, upd_ne h2]
  rw [eh]
  exact k dx n1
/-- C(), no own __init__ -/
theorem pmk_err0 {X : Cx} {x : Str} {C : Addr} {p pos : Pos} (q : PySem.W.excIn X.K C He.veBase "ValueError.__new__" = true) (T : ErrC X.K C) (hg : Gl X x) (hm : X.mg x = some (.ref C))
    (hdb : (x == ("__debug__" : Str)) = false := by decide) : PMk X (.Call (.Name x p) [] [] pos) (fun _ H Q => Q (.ref C) none H) := by
  intro pins s σ H Q I h
  refine wpAny_Call_Name_kw (ld_glob I hg hm ?_ hdb)
  refine PySem.W.callWith_K0 I.kIn T.oex.kC ?_
  obtain ⟨bm, N, nm, qn, bs, hdct, sn, sub, ab, col, dd, k0, k1, k2, k3, k5, mN, hC, hN, hni, Tl⟩ := exc_obj I.kIn q
  refine wpAny_call_exc_subT F.excBase_ValueError Tl hC hN hni (fun h' e hm => ?_) (by show 0 ≤ sizeLine; rw [sizeLine_eq]; omega)
  exact mk_of I hm (raises_own T.oex.exC T.oex.tyC) h (I.hok.gone hm.new)
end EX
/-! own errors as the top leaves them -/
namespace EX
open PySem PySem.Spec PyProof.Rows L2 NdefX
set_option autoImplicit false
/-- an error class with its __init__(self, fl) -/
structure DfE (P : Program) (K : PySem.W.Frag) (mg : Str → Option Value) (x fl : Str) (ok : V → Prop) where
  C : Addr
  fI : Addr
  fd : FuncData
  g : mg x = some (.ref C)
  T : ErrC K C
  iC : PySem.W.findIn K (.ref C) "__init__" = some (some (.ref fI))
  tI : PySem.W.typeIn K (.ref fI) = some (.type "function")
  no : PySem.W.findIn K (.ref C) fl = some none
  b : Binds K fd ["self", fl] []
  F : ∀ (w : World) (base : Heap), FnOk P w K mg base CX0 1 fI fd ["self", fl] (spErr C fl ok)
/-- an error class without an __init__ -/
structure DfE0 (K : PySem.W.Frag) (mg : Str → Option Value) (x : Str) where
  C : Addr
  g : mg x = some (.ref C)
  T : ErrC K C
  q : PySem.W.excIn K C He.veBase "ValueError.__new__" = true
/-! ### the two bodies -/
theorem app_len (a b : Str) : (a ++ b).length = a.length + b.length := by
  show (a.cps ++ b.cps).size = a.cps.size + b.cps.size
  rw [Array.size_append]
section
variable {P : Program} {w : World} {K : PySem.W.Frag} {mg : Str → Option Value} {base : Heap} {C fI cc : Addr} {F : NF} {fl : Str} {oc doc pm ctv : Value} {od : Option Addr} {osl : Array (Option Value)} {ar : Arg}
/-- f'.. {fl}' -/
theorem init_f {p0 p1 p2 p3 p4 q1 q2 q3 q4 q5 q6 q7 q8 : Pos} {m : Str} {j : Nat} {pl : Addr → Sem Bool} (T : SupC P K C fI cc F) (lk : K.lookup fI = some ⟨oc, od, .func (F.fd doc pm ctv), osl⟩) (hm : mg "super" = none) (S : NScope ["self", fl, "__class__"] ["self", fl] ["__class__"] F.scope) (no : PySem.W.findIn K (.ref C) fl = some none)
    (hbody : F.body = [.Expr (.Call (.Attribute (.Call (.Name "super" p0) [] [] p1) "__init__" p2) [.JoinedStr [.Constant (.str m) j q1, .FormattedValue (.Name fl q2) (-1) none q3] q4] [] p3) p4, .Assign [.Attribute (.Name "self" q5) fl q6] (.Name fl q7) q8]) (hml : m.length ≤ 1000)
    (hpar : (F.params.posonlyargs ++ F.params.args).head? = some ar) (har : ar.arg = "self") (hks : F.scope.names.lookup ("super" : Str) = some .globalImplicit) (hdb : (fl == ("__debug__" : Str)) = false) (hdc : (fl == ("__classdict__" : Str)) = false)
    (he : ∀ L : Addr, eval (.Call (.Attribute (.Call (.Name "super" p0) [] [] p1) "__init__" p2) [.JoinedStr [.Constant (.str m) j q1, .FormattedValue (.Name fl q2) (-1) none q3] q4] [] p3) (envF F fI L) = (do
      let ov ← attributeBase (.Call (.Name "super" p0) [] [] p1) "__init__" (envF F fI L) (eval (.Call (.Name "super" p0) [] [] p1) (envF F fI L))
      standAt p2.atName
      let (f, first) ← holding [ov] (getMethod ov "__init__" (pl L))
      callWith p3 f first (backTo p3 (starEach [.JoinedStr [.Constant (.str m) j q1, .FormattedValue (.Name fl q2) (-1) none q3] q4] (envF F fI L))) [])) :
    FnOk P w K mg base CX0 1 fI (F.fd doc pm ctv) ["self", fl] (spErr C fl MsgOk) := by
  have vs : F.scope.names.lookup ("self" : Str) = some .local := S.par "self" (List.mem_cons_self ..)
  have vf : F.scope.names.lookup fl = some .local := S.par fl (List.mem_cons_of_mem _ (List.mem_cons_self ..))
  refine sup_ok (k := 0) T lk hm S hbody hpar har hks (fun vs H Q E h => ?_) (fun A outer s H vs Q E hr h => ?_) he (fun L => rfl) (fun L => rfl)
  · obtain ⟨a, y, rfl, _⟩ := h
    rfl
  · obtain ⟨a, y, rfl, ha, ok, k⟩ := h
    refine ⟨a, y, _, _, rfl, ha, pe_joined (.cons pe_str (.cons (pe_fmtN (pe_var (i := 1) rfl (.inl vf) (hd := hdb) (hcd := hdc))) .nil)), pss_one (ps_ost (pe_var (i := 0) rfl (.inl vs)) (pe_var (i := 1) rfl (.inl vf) (hd := hdb) (hcd := hdc)) (by rfl)), ?_⟩
    refine ⟨m, rfl, by rw [app_len, sizeLine_eq]; show 0 + _ ≤ _; omega, y, rfl, ok, fun z hz => ⟨z, rfl, by rw [app_len, app_len, sizeLine_eq]; show 0 + _ + _ ≤ _; omega, rfl, ha, y, rfl, .ref a, rfl, a, C, rfl, T.oex, no, .inl ⟨ha, fun dx n1 n2 => k dx n1 n2⟩⟩⟩
/-- a written text -/
theorem init_c {p0 p1 p2 p3 p4 q1 q5 q6 q7 q8 : Pos} {m : Str} {j : Nat} {pl : Addr → Sem Bool} (T : SupC P K C fI cc F) (lk : K.lookup fI = some ⟨oc, od, .func (F.fd doc pm ctv), osl⟩) (hm : mg "super" = none) (S : NScope ["self", fl, "__class__"] ["self", fl] ["__class__"] F.scope) (no : PySem.W.findIn K (.ref C) fl = some none)
    (hbody : F.body = [.Expr (.Call (.Attribute (.Call (.Name "super" p0) [] [] p1) "__init__" p2) [.Constant (.str m) j q1] [] p3) p4, .Assign [.Attribute (.Name "self" q5) fl q6] (.Name fl q7) q8])
    (hpar : (F.params.posonlyargs ++ F.params.args).head? = some ar) (har : ar.arg = "self") (hks : F.scope.names.lookup ("super" : Str) = some .globalImplicit) (hdb : (fl == ("__debug__" : Str)) = false) (hdc : (fl == ("__classdict__" : Str)) = false)
    (he : ∀ L : Addr, eval (.Call (.Attribute (.Call (.Name "super" p0) [] [] p1) "__init__" p2) [.Constant (.str m) j q1] [] p3) (envF F fI L) = (do
      let ov ← attributeBase (.Call (.Name "super" p0) [] [] p1) "__init__" (envF F fI L) (eval (.Call (.Name "super" p0) [] [] p1) (envF F fI L))
      standAt p2.atName
      let (f, first) ← holding [ov] (getMethod ov "__init__" (pl L))
      callWith p3 f first (backTo p3 (starEach [.Constant (.str m) j q1] (envF F fI L))) [])) :
    FnOk P w K mg base CX0 1 fI (F.fd doc pm ctv) ["self", fl] (spErr C fl fun _ => True) := by
  have vs : F.scope.names.lookup ("self" : Str) = some .local := S.par "self" (List.mem_cons_self ..)
  have vf : F.scope.names.lookup fl = some .local := S.par fl (List.mem_cons_of_mem _ (List.mem_cons_self ..))
  refine sup_ok (k := 0) T lk hm S hbody hpar har hks (fun vs H Q E h => ?_) (fun A outer s H vs Q E hr h => ?_) he (fun L => rfl) (fun L => rfl)
  · obtain ⟨a, y, rfl, _⟩ := h
    rfl
  · obtain ⟨a, y, rfl, ha, ok, k⟩ := h
    refine ⟨a, y, _, _, rfl, ha, pe_str, pss_one (ps_ost (pe_var (i := 0) rfl (.inl vs)) (pe_var (i := 1) rfl (.inl vf) (hd := hdb) (hcd := hdc)) (by rfl)), ?_⟩
    exact ⟨rfl, ha, y, rfl, .ref a, rfl, a, C, rfl, T.oex, no, .inl ⟨ha, fun dx n1 n2 => k dx n1 n2⟩⟩
end
/-! ### the top's facts -/
/-- an __init__: its class, its field, its def -/
structure InD where
  cls : Str
  qual : Str
  fld : Str
  params : Arguments
  body : List Stmt
  scope : Scope
abbrev FnY : Type := Option (Str × Str × Arguments × FuncBody × Scope × Addr × Value × Value × Option Addr × Addr)
def fnY (K : PySem.W.Frag) (x : Str) : FnY := match K.lookup (He.ma K (He.ga K x) "__init__") with
  | some ⟨_, _, .func fd, _⟩ => some (fd.name, fd.qualname, fd.params, fd.body, fd.scope, fd.globals, fd.defaults, fd.kwdefaults, fd.annotations, fd.builtins)
  | _ => none
def InD.val (d : InD) : FnY := some ("__init__", d.qual, d.params, .stmts d.body, d.scope, mainGlobals, .none, .none, none, builtinsNs)
/-- the code object of the program's own text -/
def codeB (P : Program) (K : PySem.W.Frag) (c : Addr) (q : Str) : Bool := PySem.W.codeIn K (.ref c) q && (match K.lookup c with
  | some ⟨_, _, .fields vs, _⟩ => (match (vs[2]? : Option Value) with
    | some (Value.str file _) => (P.main.file : Str) == file
    | _ => false)
  | _ => false)
def codeV (P : Program) (K : PySem.W.Frag) (v : Value) (q : Str) : Bool := match v with
  | .ref c => codeB P K c q
  | _ => false
def cellB (K : PySem.W.Frag) (C c : Addr) : Bool := match K.lookup c with
  | some ⟨_, _, .cell (some (.ref D)), _⟩ => D == C
  | _ => false
def clB (K : PySem.W.Frag) (C : Addr) (l : List (Str × Addr)) : Bool := match l with
  | [(y, c)] => decide (y = "__class__") && cellB K C c
  | _ => false
def fdB (P : Program) (K : PySem.W.Frag) (C fI : Addr) : Bool := match K.lookup fI with
  | some ⟨_, _, .func fd, _⟩ => clB K C fd.closure && codeV P K fd.code fd.qualname
  | _ => false
def supB (P : Program) (K : PySem.W.Frag) (d : InD) : Bool := errB K (He.ga K d.cls) && (fdB P K (He.ga K d.cls) (He.ma K (He.ga K d.cls) "__init__") && (decide (PySem.W.nsIn K cStatics "thirdparty.any" = some none) && (decide (PySem.W.ks_superIn K (He.ga K d.cls) (He.ga K d.cls) "__init__" = some (some (.builtin "ValueError.__init__"))) &&
  (decide (PySem.W.subIn K (.ref (He.ga K d.cls)) (.type "ValueError") = some true) && (decide (PySem.W.mroIn K (He.ga K d.cls) (.ref (He.ga K d.cls)) = some true) && (decide (PySem.W.findIn K (.ref (He.ga K d.cls)) "__init__" = some (some (.ref (He.ma K (He.ga K d.cls) "__init__")))) &&
  (decide (PySem.W.typeIn K (.ref (He.ma K (He.ga K d.cls) "__init__")) = some (.type "function")) && (decide (PySem.W.findIn K (.ref (He.ga K d.cls)) d.fld = some none) && He.eqO (PySem.W.nsIn K mainGlobals d.cls) (some (some (.ref (He.ga K d.cls))))))))))))
theorem cellB_ok {K : PySem.W.Frag} {C c : Addr} (h : cellB K C c = true) : ∃ (cl : Value) (cld : Option Addr) (csl : Array (Option Value)), K.lookup c = some (⟨cl, cld, .cell (some (.ref C)), csl⟩ : Obj) := by
  unfold cellB at h
  split at h
  · rename_i a b D s e
    have : D = C := eq_of_beq h
    subst this
    exact ⟨a, b, s, e⟩
  · cases h
theorem codeB_ok {P : Program} {K : PySem.W.Frag} {c : Addr} {q : Str} (h : codeB P K c q = true) : PySem.W.codeIn K (.ref c) q = true ∧ ∃ (ccl : Value) (cdd : Option Addr) (vs : Array Value) (ccs : Array (Option Value)) (file : Str) (tf : Tok), K.lookup c = some (⟨ccl, cdd, .fields vs, ccs⟩ : Obj) ∧ vs[2]? = some (Value.str file tf) ∧ ((P.main.file : Str) == file) = true := by
  unfold codeB at h
  obtain ⟨h1, h⟩ := Bool.and_eq_true_iff.mp h
  refine ⟨h1, ?_⟩
  split at h
  · rename_i a b vs s e
    split at h
    · rename_i file t e2
      exact ⟨a, b, vs, s, file, t, e, e2, h⟩
    · cases h
  · cases h
/-- what is known of the class behind the top -/
theorem init_at {P : Program} {K : PySem.W.Frag} {d : InD} (e : fnY K d.cls = d.val) (c : supB P K d = true) (top : (P.main.scope.names.lookup ("super" : Str)).isSome = false) :
    ∃ (F : NF) (cc : Addr) (oc doc pm ctv : Value) (od : Option Addr) (osl : Array (Option Value)), F.name = "__init__" ∧ F.qual = d.qual ∧ F.params = d.params ∧ F.body = d.body ∧ F.scope = d.scope ∧ SupC P K (He.ga K d.cls) (He.ma K (He.ga K d.cls) "__init__") cc F ∧ K.lookup (He.ma K (He.ga K d.cls) "__init__") = some ⟨oc, od, .func (F.fd doc pm ctv), osl⟩ := by
  unfold supB at c
  simp only [Bool.and_eq_true, decide_eq_true_eq] at c
  obtain ⟨c1, c2, c3, c4, c5, c6, c7, c8, c9, c10⟩ := c
  have E := errB_ok c1
  unfold fdB at c2
  unfold fnY at e
  cases q : K.lookup (He.ma K (He.ga K d.cls) "__init__") with
  | none =>
    rw [q] at c2
    cases c2
  | some o =>
    obtain ⟨oc, od, dt, osl⟩ := o
    rw [q] at c2 e
    cases dt with
    | func fd =>
      obtain ⟨n1, n2, n3, n4, n5, n6, n7, n8, n9, n10, n11, n12, n13, n14, n15⟩ := fd
      have e2 : (some (n1, n2, n3, n4, n5, n6, n8, n9, n12, n15) : FnY) = some (("__init__" : Str), d.qual, d.params, FuncBody.stmts d.body, d.scope, mainGlobals, Value.none, Value.none, (none : Option Addr), builtinsNs) := e
      simp only [Option.some.injEq, Prod.mk.injEq] at e2
      obtain ⟨h1, h2, h3, h4, h5, h6, h7, h8, h9, h10⟩ := e2
      subst h1 h2 h3 h4 h5 h6 h7 h8 h9 h10
      have c3' : (clB K (He.ga K d.cls) n7 && codeV P K n13 d.qual) = true := c2
      obtain ⟨k1, k2⟩ := Bool.and_eq_true_iff.mp c3'
      unfold clB at k1
      split at k1
      · rename_i y cc
        obtain ⟨k3, k4⟩ := Bool.and_eq_true_iff.mp k1
        have ey : y = "__class__" := of_decide_eq_true k3
        subst ey
        cases n13 with
        | ref cd =>
          obtain ⟨k5, k6⟩ := codeB_ok k2
          exact ⟨⟨"__init__", d.qual, d.params, d.body, d.scope, [("__class__", cc)], cd⟩, cc, oc, n10, n11, n14, od, osl, rfl, rfl, rfl, rfl, rfl, ⟨E.oex, rfl, k5, k6, cellB_ok k4, top, c3, c4, c5, c6⟩, rfl⟩
        | _ => cases k2
      · cases k1
    | _ => cases c2
theorem mkE {P : Program} {K : PySem.W.Frag} {h : Heap} {mg : Str → Option Value} {d : InD} {ok : V → Prop} (X : K.In h) (G : h.Ns mainGlobals mg) (e : fnY K d.cls = d.val) (c : supB P K d = true) (top : (P.main.scope.names.lookup ("super" : Str)).isSome = false)
    (hb : ∀ (F : NF) (doc pm ctv : Value) (us : List Value), F.name = "__init__" → F.qual = d.qual → F.params = d.params → F.body = d.body → F.scope = d.scope → us.length = 2 → bindArgs (F.fd doc pm ctv) ⟨us, []⟩ = pure ((([("self" : Str), d.fld] : List Str)).zip us))
    (hF : ∀ (F : NF) (cc : Addr) (oc doc pm ctv : Value) (od : Option Addr) (osl : Array (Option Value)) (w : World) (base : Heap), F.params = d.params → F.body = d.body → F.scope = d.scope → SupC P K (He.ga K d.cls) (He.ma K (He.ga K d.cls) "__init__") cc F →
      K.lookup (He.ma K (He.ga K d.cls) "__init__") = some ⟨oc, od, .func (F.fd doc pm ctv), osl⟩ → PySem.W.findIn K (.ref (He.ga K d.cls)) d.fld = some none → FnOk P w K mg base CX0 1 (He.ma K (He.ga K d.cls) "__init__") (F.fd doc pm ctv) ["self", d.fld] (spErr (He.ga K d.cls) d.fld ok)) :
    ∃ D : DfE P K mg d.cls d.fld ok, D.C = He.ga K d.cls := by
  obtain ⟨F, cc, oc, doc, pm, ctv, od, osl, f1, f2, f3, f4, f5, S, lk⟩ := init_at e c top
  unfold supB at c
  simp only [Bool.and_eq_true, decide_eq_true_eq] at c
  obtain ⟨c1, c2, c3, c4, c5, c6, c7, c8, c9, c10⟩ := c
  exact ⟨⟨He.ga K d.cls, He.ma K (He.ga K d.cls) "__init__", F.fd doc pm ctv, PySem.W.mg_of X G (He.eqO_ok c10), errB_ok c1, c7, c8, c9, .all fun us hl => hb F doc pm ctv us f1 f2 f3 f4 f5 hl, fun w base => hF F cc oc doc pm ctv od osl w base f3 f4 f5 S lk c9⟩, rfl⟩
/-! ### the Hook -/
def ex0B (K : PySem.W.Frag) (x : Str) : Bool := errB K (He.ga K x) && (PySem.W.excIn K (He.ga K x) He.veBase "ValueError.__new__" && He.eqO (PySem.W.nsIn K mainGlobals x) (some (some (.ref (He.ga K x)))))
/-- isinstance of an instance of x, y: b -/
def kitB (K : PySem.W.Frag) (p : Str × Str × Bool) : Bool := decide (PySem.W.kitOne K (.ref (He.ga K p.1)) (.ref (He.ga K p.2.1)) = some p.2.2)
abbrev AlX : Type := He.AlD × Bool × List FnY
/-- an own class that isinstance, == and != ask -/
structure OwnC (K : PySem.W.Frag) (C : Addr) : Prop where
  ha : PySem.W.findIn K (.ref C) "__class__" = some (some (.builtin "object.__class__"))
  hn : PySem.W.specialIn K (.builtin "object.__class__") "__get__" = some (some (.builtin "getset_descriptor.__get__"))
  ht : PySem.W.takesIn K (.builtin "object.__class__") = some true
  hm : PySem.W.mroIn K C (.type "object") = some true
  me : PySem.W.kitOne K (.ref C) (.ref C) = some true
  ne : PySem.W.findIn K (.ref C) "__ne__" = some (some (.builtin "object.__ne__"))
def ownB (K : PySem.W.Frag) (x : Str) : Bool := decide (PySem.W.findIn K (.ref (He.ga K x)) "__class__" = some (some (.builtin "object.__class__"))) && (decide (PySem.W.specialIn K (.builtin "object.__class__") "__get__" = some (some (.builtin "getset_descriptor.__get__"))) && (decide (PySem.W.takesIn K (.builtin "object.__class__") = some true) &&
  (decide (PySem.W.mroIn K (He.ga K x) (.type "object") = some true) && (decide (PySem.W.kitOne K (.ref (He.ga K x)) (.ref (He.ga K x)) = some true) && decide (PySem.W.findIn K (.ref (He.ga K x)) "__ne__" = some (some (.builtin "object.__ne__")))))))
theorem ownB_ok {K : PySem.W.Frag} {x : Str} (h : ownB K x = true) : OwnC K (He.ga K x) := by
  unfold ownB at h
  simp only [Bool.and_eq_true, decide_eq_true_eq] at h
  obtain ⟨h1, h2, h3, h4, h5, h6⟩ := h
  exact ⟨h1, h2, h3, h4, h5, h6⟩
/-- isinstance of a value of the built-in class T, y: false; y is no such class's own -/
structure KtyF (K : PySem.W.Frag) (T : String) (C : Addr) : Prop where
  no : PySem.W.kitOne K (.type T) (.ref C) = some false
  nf : PySem.W.notFirst K C (.type T) = true
def ktyB (K : PySem.W.Frag) (p : String × Str) : Bool := decide (PySem.W.kitOne K (.type p.1) (.ref (He.ga K p.2)) = some false) && PySem.W.notFirst K (He.ga K p.2) (.type p.1)
theorem ktyB_ok {K : PySem.W.Frag} {p : String × Str} (h : ktyB K p = true) : KtyF K p.1 (He.ga K p.2) := by
  unfold ktyB at h
  simp only [Bool.and_eq_true, decide_eq_true_eq] at h
  exact ⟨h.1, h.2⟩
structure Xs where
  ini : List InD := []
  ex : List Str := []
  kit : List (Str × Str × Bool) := []
  exm : List (Str × Str × Bool) := []
  own : List Str := []
  kty : List (String × Str) := []
def Xs.ok (P : Program) (x : Xs) (K : PySem.W.Frag) : Bool := x.ini.all (supB P K) && (x.ex.all (ex0B K) && (x.kit.all (kitB K) && ((x.exm.all fun p => (He.Fa.exm p.1 p.2.1 p.2.2).ok K) && (x.own.all (ownB K) && x.kty.all (ktyB K)))))
def obsX (P : Program) (fa : List He.Fa) (fn : List He.DefD) (x : Xs) (K : PySem.W.Frag) : AlX := (He.obsD fa fn K, x.ok P K, x.ini.map fun d => fnY K d.cls)
def valX (fn : List He.DefD) (x : Xs) : AlX := (He.valD fn, true, x.ini.map InD.val)
def obsXG (P : Program) (n : Nat) (fa : List He.Fa) (fn : List He.DefD) (x : Xs) (g : Addr → Option Obj) : AlX := obsX P fa fn x (He.frG g (cStatics :: He.asD g n))
def SaysX (P : Program) (fa : List He.Fa) (fn : List He.DefD) (x : Xs) (K : PySem.W.Frag) : Prop := obsX P fa fn x K = valX fn x
def hookX (P : Program) (n : Nat) (fa : List He.Fa) (fn : List He.DefD) (x : Xs) : PySem.W.Hook where
  α := AlX
  obs := fun s => obsXG P n fa fn x s.heap.get?
  val := fun _ => valX fn x
  says := fun _ h => ∃ K : PySem.W.Frag, K.In h ∧ SaysX P fa fn x K
  of := fun _ _ e => ⟨_, He.frG_in, e⟩
  keeps := fun _ _ _ ⟨K, hK, c⟩ k => ⟨K, PySem.W.Frag.In.keeps hK k, c⟩
theorem obsXG_eq {P : Program} {n : Nat} {fa : List He.Fa} {fn : List He.DefD} {x : Xs} {g : Addr → Option Obj} {s : Shared} (h : ∀ a, g a = s.heap.get? a) : obsXG P n fa fn x g = (hookX P n fa fn x).obs s := by
  have e : g = s.heap.get? := funext h
  rw [e] <;> rfl
section
variable {P : Program} {fa : List He.Fa} {fn : List He.DefD} {x : Xs} {K : PySem.W.Frag}
theorem SaysX.d (c : SaysX P fa fn x K) : He.SaysD fa fn K := congrArg (fun z : AlX => z.1) c
theorem SaysX.b (c : SaysX P fa fn x K) : x.ok P K = true := congrArg (fun z : AlX => z.2.1) c
theorem SaysX.ini (c : SaysX P fa fn x K) (i : Nat) {d : InD} (h : x.ini[i]? = some d := by rfl) : supB P K d = true ∧ fnY K d.cls = d.val := by
  obtain ⟨b, _⟩ := Bool.and_eq_true_iff.mp c.b
  refine ⟨List.all_eq_true.mp b d (List.mem_of_getElem? h), ?_⟩
  have e : x.ini.map (fun d => fnY K d.cls) = x.ini.map InD.val := congrArg (fun z : AlX => z.2.2) c
  have e2 : (x.ini.map fun d => fnY K d.cls)[i]? = (x.ini.map InD.val)[i]? := by rw [e]
  rw [List.getElem?_map, List.getElem?_map, h] at e2
  exact Option.some.inj e2
theorem SaysX.ex {h : Heap} {mg : Str → Option Value} (c : SaysX P fa fn x K) (X : K.In h) (G : h.Ns mainGlobals mg) (i : Nat) {y : Str} (hy : x.ex[i]? = some y := by rfl) : ∃ D : DfE0 K mg y, D.C = He.ga K y := by
  obtain ⟨_, b⟩ := Bool.and_eq_true_iff.mp c.b
  obtain ⟨b, _⟩ := Bool.and_eq_true_iff.mp b
  have z := List.all_eq_true.mp b y (List.mem_of_getElem? hy)
  unfold ex0B at z
  simp only [Bool.and_eq_true] at z
  exact ⟨⟨He.ga K y, PySem.W.mg_of X G (He.eqO_ok z.2.2), errB_ok z.1, z.2.1⟩, rfl⟩
theorem SaysX.kit (c : SaysX P fa fn x K) (i : Nat) {p : Str × Str × Bool} (hy : x.kit[i]? = some p := by rfl) : PySem.W.kitOne K (.ref (He.ga K p.1)) (.ref (He.ga K p.2.1)) = some p.2.2 := by
  obtain ⟨_, b⟩ := Bool.and_eq_true_iff.mp c.b
  obtain ⟨_, b⟩ := Bool.and_eq_true_iff.mp b
  obtain ⟨b, _⟩ := Bool.and_eq_true_iff.mp b
  exact of_decide_eq_true (List.all_eq_true.mp b p (List.mem_of_getElem? hy))
theorem SaysX.exm (c : SaysX P fa fn x K) (i : Nat) {p : Str × Str × Bool} (hy : x.exm[i]? = some p := by rfl) : PySem.W.exmOne K (.ref (He.ga K p.1)) (.ref (He.ga K p.2.1)) = some p.2.2 := by
  obtain ⟨_, b⟩ := Bool.and_eq_true_iff.mp c.b
  obtain ⟨_, b⟩ := Bool.and_eq_true_iff.mp b
  obtain ⟨_, b⟩ := Bool.and_eq_true_iff.mp b
  obtain ⟨b, _⟩ := Bool.and_eq_true_iff.mp b
  exact He.exm_ok (List.all_eq_true.mp b p (List.mem_of_getElem? hy))
theorem SaysX.own (c : SaysX P fa fn x K) (i : Nat) {y : Str} (hy : x.own[i]? = some y := by rfl) : OwnC K (He.ga K y) := by
  obtain ⟨_, b⟩ := Bool.and_eq_true_iff.mp c.b
  obtain ⟨_, b⟩ := Bool.and_eq_true_iff.mp b
  obtain ⟨_, b⟩ := Bool.and_eq_true_iff.mp b
  obtain ⟨_, b⟩ := Bool.and_eq_true_iff.mp b
  obtain ⟨b, _⟩ := Bool.and_eq_true_iff.mp b
  exact ownB_ok (List.all_eq_true.mp b y (List.mem_of_getElem? hy))
theorem SaysX.kty (c : SaysX P fa fn x K) (i : Nat) {p : String × Str} (hy : x.kty[i]? = some p := by rfl) : KtyF K p.1 (He.ga K p.2) := by
  obtain ⟨_, b⟩ := Bool.and_eq_true_iff.mp c.b
  obtain ⟨_, b⟩ := Bool.and_eq_true_iff.mp b
  obtain ⟨_, b⟩ := Bool.and_eq_true_iff.mp b
  obtain ⟨_, b⟩ := Bool.and_eq_true_iff.mp b
  obtain ⟨_, b⟩ := Bool.and_eq_true_iff.mp b
  exact ktyB_ok (List.all_eq_true.mp b p (List.mem_of_getElem? hy))
end
end EX
/-! tuple * 1, tuple * more -/
namespace TM
open PySem PySem.Spec PyProof.Rows L2
theorem tuple_mul1 (l : Addr) (items : Array Value) (n : Nat) (dd : Option Addr) (sl : Array (Option Value)) (u : Tok) :
    Meets (Builtin.«tuple.__mul__» ⟨[.ref l, .int 1 u], []⟩) (fun _ R s => s.heap.get? l = some { cls := .type "tuple", dict := dd, data := .seq items n, slots := sl } ∧ R (.ok (.ret (Value.ref l))) s) :=
  .of_wp fun prog w A R s h => by
    obtain ⟨hp, g, d, tk, os⟩ := s
    obtain ⟨hl, h⟩ := h
    have f1 := AutoSeq1.idx_int
    wp_walk using wpAny_loadPart' hl
    exact ⟨_, rfl, h⟩
section
variable {X : Cx}
def rRep (K : PySem.W.Frag) : R2 := fun x y H Q => ∃ l k xs, x = .ref l ∧ y = .int k ∧ SqT K H l xs ∧ xs ≠ [] ∧ 1 ≤ k ∧ k ≤ 1000 ∧ xs.length ≤ 1000 ∧ (k = 1 → Q (.ref l) H) ∧ (2 ≤ k → ∀ p, H p = none → Q (.ref p) (upd H p (.tup (List.replicate k.toNat xs).flatten)))
theorem op_rep : OpR X (binaryOp .Mult) (rRep X.K) := by
  intro pins s σ H x y v u Q I rx ry h
  obtain ⟨l, k, xs, rfl, rfl, hT, hne, h1, h2, hz, q1, q2⟩ := h
  by_cases e : k = 1
  · subst e
    cases rx
    obtain ⟨t, rfl⟩ := ry
    obtain ⟨its, r, ⟨⟨cls, dd, data, sl⟩, ho, hc, n, hd⟩, hs⟩ := I.tuple hT
    simp only at hc hd
    subst hc hd
    refine wpAny_binaryOp_repeat_ref (T := "tuple") (U := "int") (by decide) ⟨_, ho, rfl⟩ (fun s' => typeIs_int s' 1 t) noFill_tuple_mul F.fills_int_mul F.slot_int_rmul repeat_tuple F.slot_int_index.lookup
      (call_meets F.slot_int_rmul (typeIs_int s 1 t) F.entry_int_rmul (F.args_int_rmul_2 _ _) (int_rmul_tuple 1 t l its.toArray n dd sl)
        ⟨ho, rfl, ⟨_, ho, rfl⟩, call_meets F.slot_tuple_mul ⟨_, ho, rfl⟩ F.entry_tuple_mul (F.args_tuple_mul_2 _ _) (tuple_mul1 l its.toArray n dd sl t) ⟨ho, ?_⟩⟩)
    exact ⟨.ref l, H, I, rfl, q1 rfl⟩
  · exact op_repT pins s σ H _ _ v u Q I rx ry ⟨l, k, xs, rfl, rfl, hT, hne, by omega, h2, hz, q2 (by omega)⟩
end
end TM
/-! tuple * 0 -/
namespace TM
open PySem PySem.Spec PyProof.Rows L2
theorem tuple_mul0 (l : Addr) (items : Array Value) (n : Nat) (dd : Option Addr) (sl : Array (Option Value)) (u : Tok) (hn : items.isEmpty = false) :
    Meets (Builtin.«tuple.__mul__» ⟨[.ref l, .int 0 u], []⟩) (fun _ R s => s.heap.get? l = some { cls := .type "tuple", dict := dd, data := .seq items n, slots := sl } ∧ R (.ok (.ret (Value.ref s.heap.objs.size))) { s with heap := s.heap.push { cls := Value.type "tuple", data := Data.seq #[] }, toks := s.toks }) :=
  .of_wp fun prog w A R s h => by
    obtain ⟨hp, g, d, tk, os⟩ := s
    obtain ⟨hl, h⟩ := h
    have f1 := AutoSeq1.idx_int
    wp_walk using wpAny_loadPart' hl
    exact ⟨_, rfl, h⟩
section
variable {X : Cx}
/-- a tuple times an int that is not negative -/
def rRepA (K : PySem.W.Frag) : R2 := fun x y H Q => ∃ l k xs, x = .ref l ∧ y = .int k ∧ SqT K H l xs ∧ xs ≠ [] ∧ 0 ≤ k ∧ k ≤ 1000 ∧ xs.length ≤ 1000 ∧ ∀ H' p, (∀ b o, H b = some o → H' b = some o) → SqT K H' p (List.replicate k.toNat xs).flatten → Q (.ref p) H'
theorem op_repA : OpR X (binaryOp .Mult) (rRepA X.K) := by
  intro pins s σ H x y v u Q I rx ry h
  obtain ⟨l, k, xs, rfl, rfl, hT, hne, h1, h2, hz, q⟩ := h
  have sm : ∀ {p : Addr} {o : HO}, H p = none → ∀ b o', H b = some o' → upd H p o b = some o' := fun {p o} hp b o' e => by
    rw [upd_ne (fun z => by rw [z, hp] at e; cases e)]
    exact e
  by_cases e : k = 0
  · subst e
    cases rx
    obtain ⟨t, rfl⟩ := ry
    obtain ⟨its, r, ⟨⟨cls, dd, data, sl⟩, ho, hc, n, hd⟩, hs⟩ := I.tuple hT
    simp only at hc hd
    subst hc hd
    have hn : its.toArray.isEmpty = false := by
      cases its with
      | nil =>
        cases r
        exact absurd rfl hne
      | cons a b => rfl
    refine wpAny_binaryOp_repeat_ref (T := "tuple") (U := "int") (by decide) ⟨_, ho, rfl⟩ (fun s' => typeIs_int s' 0 t) noFill_tuple_mul F.fills_int_mul F.slot_int_rmul repeat_tuple F.slot_int_index.lookup
      (call_meets F.slot_int_rmul (typeIs_int s 0 t) F.entry_int_rmul (F.args_int_rmul_2 _ _) (int_rmul_tuple 0 t l its.toArray n dd sl)
        ⟨ho, rfl, ⟨_, ho, rfl⟩, call_meets F.slot_tuple_mul ⟨_, ho, rfl⟩ F.entry_tuple_mul (F.args_tuple_mul_2 _ _) (tuple_mul0 l its.toArray n dd sl t hn) ⟨ho, ?_⟩⟩)
    refine ⟨.ref s.heap.objs.size, _, I.laid (t' := s.toks) (o := .tup []) (fun b ob q => Heap.get?_push_of_some _ q) (Nat.le_refl _) ?_, rfl, q _ _ (sm (I.hok.fresh (Nat.le_refl _))) (SqT.of upd_same)⟩
    exact ⟨Nat.zero_le _, [], .nil, IsTup.new _ _⟩
  · refine op_rep pins s σ H _ _ v u Q I rx ry ⟨l, k, xs, rfl, rfl, hT, hne, by omega, h2, hz, fun e => ?_, fun e p hp => q _ _ (sm hp) (SqT.of upd_same)⟩
    subst e
    have e1 : (List.replicate (1 : Int).toNat xs).flatten = xs := by simp
    exact q H l (fun _ _ h => h) (by rw [e1]; exact hT)
end
end TM
/-! sorted(set of texts), sorted(list of texts) of any length -/
namespace TXB
open PySem PySem.Spec PyProof.Rows L2 PySem.W
set_option autoImplicit false
def leS : Str → Str → Bool := dataLe false fun x : Str => PyData.str x
def TxtV (v : Value) (x : Str) : Prop := ∃ t, v = Value.str x t
theorem each_of : ∀ {us : List Value} {xs : List Str}, StrsAre us xs → EachIs TxtV us xs
  | _, _, .nil => .nil
  | _, _, .cons n t r => .cons ⟨t, rfl⟩ (each_of r)
theorem strs_of : ∀ {us : List Value} {xs : List Str}, EachIs TxtV us xs → StrsAre us xs
  | _, _, .nil => .nil
  | _, _, .cons ⟨t, rfl⟩ r => .cons _ t (strs_of r)
theorem vals_of : ∀ {us : List Value} {xs : List Str}, EachIs TxtV us xs → Vals (xs.map V.str) us
  | _, _, .nil => .nil
  | _, _, .cons h r => .cons h (vals_of r)
theorem reads_of {h : Heap} : ∀ {us : List Value} {xs : List Str}, EachIs TxtV us xs → EachIs (fun v x => ∃ as, Reads h v (PyData.str x) as) us xs
  | _, _, .nil => .nil
  | _, _, .cons ⟨t, rfl⟩ r => .cons ⟨[], .str _ t⟩ (reads_of r)
theorem al_strs (xs : List Str) : AllAlike (xs.map fun x => PyData.str x) := by
  intro d hd d' hd'
  obtain ⟨a, _, rfl⟩ := List.mem_map.mp hd
  obtain ⟨b, _, rfl⟩ := List.mem_map.mp hd'
  simp [alike]
theorem so_strs (xs : List Str) : Sortable (xs.map fun x => PyData.str x) := by
  refine .inr fun d hd => ?_
  obtain ⟨a, _, rfl⟩ := List.mem_map.mp hd
  exact ⟨by simp, fun ys => by simp⟩
theorem leS_iff {a b : Str} : leS a b = true ↔ a.cps.toList ≤ b.cps.toList := by
  unfold leS
  rw [dataLe_str fun x : Str => x]
  exact decide_eq_true_iff
theorem ms_perm (xs : List Str) : (xs.mergeSort leS).Perm xs := List.mergeSort_perm xs leS
theorem ms_sorted (xs : List Str) : sortedS (xs.mergeSort leS) = true := by
  refine sortedS_of_pairwise _ ?_
  have h := List.pairwise_mergeSort (le := leS) (fun a b c h1 h2 => leS_iff.mpr (List.le_trans (leS_iff.mp h1) (leS_iff.mp h2))) (fun a b => by
    rw [Bool.or_eq_true, leS_iff, leS_iff]
    exact List.le_total _ _) xs
  refine h.imp fun {a b} hab => ?_
  rw [ltCps_eq]
  exact decide_eq_false (List.not_lt.mpr (leS_iff.mp hab))
section
variable {P : Program} {w : World} {A : Around} {E : Value → Shared → Prop} {s : Shared}
open TX in
theorem sorted_atB {a : Addr} {l : List Str} {Q : Value → Shared → Prop} (R : At P w s.heap a l) (hh : A.handled = none) (hsb : l.length < scanBound) (hu : A.units + 4 < cLine)
    (hQ : ∀ s' p (out : Array Value) (c : Nat) (ys : List Str), (∀ b o, s.heap.get? b = some o → s'.heap.get? b = some o) → s'.gens = s.gens → s'.os = s.os → s.heap.objs.size ≤ p →
      s'.heap.get? p = some (seqObj "list" out c) → StrsAre out.toList ys → ys.Perm l → sortedS ys = true → Q (.ref p) s') :
    wpAny (model P w) A (call (.builtin "sorted") [.ref a]) Q E s := by
  obtain ⟨⟨es, ep, t⟩, ho, ok⟩ := R
  have ft : t.fits es.size = true := ok.tx.fit
  have z : es.size = l.length := ok.tx.sz
  have sb : es.size < scanBound := by omega
  refine Calls.call_function_entry kind_sorted plain_sorted entry_sorted (args_sorted1 _) ?_
  unfold Builtin.«sorted»
  refine wpAny_bind (m := checkCount "sorted" 1 1 _) (wpAny_pure ?_)
  refine wpAny_bind (collect_set (A := A.in1) hh ⟨_, ho, rfl, rfl⟩ ft sb ok.up ok.led fun s1 vs k1 hz g1 o1 pm => ?_)
  obtain ⟨ks, hS, mem, hlen⟩ := texts_of ok.tx.el vs fun v hv => pm.mem_iff.mp hv
  have vl : vs.length = l.length := by rw [pm.length_eq, List.length_map, Array.length_toList]; exact z
  have pk : ks.Perm l := perm_of_sub l ks ok.nd (fun k hk => by
    obtain ⟨e, he, q⟩ := (ok.tx.mem k).mp hk
    exact (mem k).mpr ⟨e.2, pm.mem_iff.mpr (List.mem_map.mpr ⟨e, he, rfl⟩), q⟩) (by omega)
  have szl : vs.length ≤ sizeLine := by
    rw [vl, sizeLine_eq]
    unfold scanBound at hsb
    omega
  refine wpAny_bind (wpAny_newList ?_ szl)
  have hoL : (s1.heap.push (seqObj "list" vs.toArray 0)).get? s1.heap.objs.size = some (seqObj "list" vs.toArray 0) := Heap.get?_push_size _ rfl
  have ei := each_of hS
  have un : ∀ d, d ∈ ks.map (fun x => PyData.str x) → A.in1.in1.units + d.depth < cLine := fun d hd => by
    obtain ⟨b, _, rfl⟩ := List.mem_map.mp hd
    have u1 : A.in1.in1.units ≤ A.units + 2 := by first | exact Nat.le_refl _ | simp [Around.in1]
    simp only [PyData.depth]
    omega
  have er : EachIs (fun v x => ∃ as, Reads (sortingHeap (s1.heap.push (seqObj "list" vs.toArray 0)) s1.heap.objs.size vs) v (PyData.str x) as) vs ks := reads_of ei
  refine wpAny_bind (wpAny_holding (wpAny_call_entry slot_list_sort ⟨_, hoL, rfl⟩ entry_list_sort
    (list_sort_vals (s := { s1 with heap := s1.heap.push (seqObj "list" vs.toArray 0) }) hoL (SortsAt.data (s := { s1 with heap := sortingHeap (s1.heap.push (seqObj "list" vs.toArray 0)) s1.heap.objs.size vs }) (each_map (R := fun v x => ∃ as, Reads (sortingHeap (s1.heap.push (seqObj "list" vs.toArray 0)) s1.heap.objs.size vs) v x as) (fun x : Str => PyData.str x) er) (al_strs ks) (so_strs ks) un) szl ?_) (args_list_sort _)))
  have eo := sortVals_data false ei er (al_strs ks)
  generalize sortVals (dataKind (sortingHeap (s1.heap.push (seqObj "list" vs.toArray 0)) s1.heap.objs.size vs) (ks.map fun x => PyData.str x)) false vs vs = out at eo ⊢
  obtain ⟨c, hc⟩ := sortedHeap_at (vs := vs) (out := out.toArray) hoL
  refine ⟨_, rfl, wpAny_pure ⟨_, rfl, hQ _ s1.heap.objs.size _ c (ks.mergeSort leS) (fun b u e => ?_) g1 o1 hz hc (strs_of eo) ((ms_perm ks).trans pk) (ms_sorted ks)⟩⟩
  have q := k1 b u e
  have lt := Heap.lt_size q
  show (sortedHeap (s1.heap.push (seqObj "list" vs.toArray 0)) s1.heap.objs.size vs _).get? b = some u
  rw [sortedHeap_old (Nat.ne_of_lt lt) (by rw [Heap.size_push]; exact Nat.lt_succ_of_lt lt)]
  exact Heap.get?_push_of_some _ q
end
section
variable {X : Cx}
/-- sorted(set of texts): of any length -/
def rSortTx (P : Program) (w : World) : List V → Hp → VK → Prop := fun vs H Q => ∃ (a : Addr) (l : List Str), vs = [V.ref a] ∧ H a = some (TX.SetTx P w a l) ∧ l.length < scanBound ∧
  ∀ (ys : List Str) (p : Addr), ys.Perm l → sortedS ys = true → H p = none → Q (.ref p) (upd H p (.lst (ys.map V.str)))
theorem cr_sortTx (hc : X.calm = true) (hu : X.A.units + 66 < cLine) : CallR X (.builtin "sorted") (rSortTx X.prog X.w) := by
  intro pins s σ H vs us Q I r h
  obtain ⟨a, l, rfl, ha, hsb, q⟩ := h
  have R : TX.At X.prog X.w s.heap a l := (I.hok a _ ha).1
  rw [Vals.ref1 r]
  refine sorted_atB R (I.ok.hd hc) hsb (by omega) fun s' p out c ys k g o hp hg hi pm so => ?_
  have hlen : (ys.map V.str).length ≤ sizeLine := by
    rw [List.length_map, pm.length_eq, sizeLine_eq]
    unfold scanBound at hsb
    omega
  have hn : H p = none := I.hok.fresh hp
  have J : Inv X pins σ (upd H p (.lst (ys.map V.str))) { s with heap := s'.heap, gens := s'.gens, drawn := s'.drawn, toks := s'.toks } :=
    I.call (ch := []) (Un.laid k hp hn) (I.hok.laid k hp ⟨hlen, out.toList, c, vals_of_strs hi, hg⟩) (by rw [g]; exact I.bare) (fun _ z => nomatch z)
  have e : s' = { s with heap := s'.heap, gens := s'.gens, drawn := s'.drawn, toks := s'.toks } := by
    cases s'
    cases s
    cases o
    rfl
  rw [e]
  exact ⟨.ref p, _, J, rfl, q ys p pm so hn⟩
/-- sorted(xs), xs a list of texts of any length -/
def rSortedS (K : PySem.W.Frag) : List V → Hp → VK → Prop := fun vs H Q => ∃ (a : Addr) (xs : List Str), vs = [V.ref a] ∧ SqL K H a (xs.map V.str) ∧ xs.length ≤ sizeLine ∧
  ∀ (ys : List Str) (p : Addr), ys.Perm xs → sortedS ys = true → H p = none → Q (.ref p) (upd H p (.lst (ys.map V.str)))
theorem cr_sortedS (hu : X.A.units + 66 < cLine) : CallR X (.builtin "sorted") (rSortedS X.K) := by
  intro pins s σ H vs us Q I r h
  obtain ⟨a, xs, rfl, hs, hL, q⟩ := h
  obtain ⟨its, rv, hl, _⟩ := I.list hs
  rw [Vals.ref1 r]
  have ei := each_of rv.strs
  refine sorted_data (enc := fun x : Str => PyData.str x) hl.isList ei (reads_of ei) (al_strs xs) (so_strs xs) hL (fun b _ => ?_) fun out hlen eo => ?_
  · show _ + 2 + (PyData.str _).depth < _
    simp only [PyData.depth]
    omega
  · obtain ⟨c, hc⟩ := sortedAll_at s.heap its out.toArray
    have hn : H (s.heap.objs.size + 1) = none := I.hok.fresh (Nat.le_succ _)
    refine ⟨.ref _, upd H (s.heap.objs.size + 1) (.lst ((xs.mergeSort leS).map V.str)), I.laid (t' := s.toks) (fun _ _ => sortedAll_old) (Nat.le_succ _) ⟨?_, out, c, vals_of eo, hc⟩, rfl, q _ _ (ms_perm xs) (ms_sorted xs) hn⟩
    rw [List.length_map, List.length_mergeSort]
    exact hL
end
end TXB
namespace DW
open PySem PySem.Spec PyProof.Rows L2
/-! ### a def that stands in the module -/
structure Df (K : PySem.W.Frag) (mg : Str → Option Value) (x : Str) (st : Stmt) (ps : List Str) where
  f : Addr
  fd : FuncData
  F : FunD K x x (defArgs st) (defBody st) (defScope st) [] [] f fd
  g : mg x = some (.ref f)
  b : Binds K fd ps []
/-! ### heaps: all but the tape stays -/
structure Kp (t : Addr) (H H' : Hp) : Prop where
  old : ∃ kvs, H t = some (.dK kvs)
  new : ∃ kvs, H' t = some (.dK kvs)
  oth : ∀ b o, b ≠ t → H b = some o → H' b = some o
theorem Kp.trans {t : Addr} {H H1 H2 : Hp} (a : Kp t H H1) (b : Kp t H1 H2) : Kp t H H2 := ⟨a.old, b.new, fun c o n e => b.oth c o n (a.oth c o n e)⟩
theorem Kp.of {t : Addr} {H H' : Hp} {kvs : List (Key × V)} (e : H t = some (.dK kvs)) (s : Same H H') : Kp t H H' := ⟨⟨_, e⟩, ⟨_, s _ _ e⟩, fun b o _ h => s b o h⟩
theorem Kp.at {t b : Addr} {H H' : Hp} {o : HO} (k : Kp t H H') (h : H b = some o) (n : ∀ kvs, o ≠ .dK kvs) : H' b = some o := by
  obtain ⟨kvs, e⟩ := k.old
  exact k.oth b o (fun z => by
    subst z
    rw [e] at h
    exact n kvs (Option.some.inj h).symm) h
theorem Kp.lst {t b : Addr} {H H' : Hp} {xs : List V} {K : PySem.W.Frag} (k : Kp t H H') (h : SqL K H b xs) : SqL K H' b xs := by
  rcases h with (h | ⟨o, h⟩) | h
  · exact .inl (.inl (k.at h fun _ z => by cases z))
  · exact .inl (.inr ⟨o, k.at h fun _ z => by cases z⟩)
  · exact .inr h
theorem Kp.tup {t b : Addr} {H H' : Hp} {xs : List V} {K : PySem.W.Frag} (k : Kp t H H') (h : SqT K H b xs) : SqT K H' b xs := by
  rcases h with (h | ⟨o, h⟩) | h
  · exact .inl (.inl (k.at h fun _ z => by cases z))
  · exact .inl (.inr ⟨o, k.at h fun _ z => by cases z⟩)
  · exact .inr h
theorem same_upd {H : Hp} {p : Addr} {o : HO} (h : H p = none) : Same H (upd H p o) := fun b x e => by
  rw [upd_ne (ne_of_none e h)]
  exact e
theorem Kp.gone {t b : Addr} {H H' : Hp} (k : Kp t H H') (h : H' b = none) : H b = none := by
  cases q : H b with
  | none => rfl
  | some o =>
    by_cases e : b = t
    · obtain ⟨kvs, z⟩ := k.new
      rw [e, z] at h
      cases h
    · rw [k.oth b o e q] at h
      cases h
/-! ### the tape -/
def tpd (c : Addr) (p l : Int) : List (Key × V) := [(.inr "cells", .ref c), (.inr "place", .int p), (.inr "left", .int l)]
structure Tape (H : Hp) (t c : Addr) (n : Nat) : Prop where
  ex : ∃ (cells : List Int) (p : Nat) (l : Int), H t = some (.dK (tpd c p l)) ∧ H c = some (.lst (cells.map V.int)) ∧ 0 < cells.length ∧ cells.length ≤ 63 ∧ p ≤ n ∧ 0 ≤ l
section
variable {H H' : Hp} {t c : Addr} {n m : Nat}
theorem Tape.dk (T : Tape H t c n) : ∃ kvs, H t = some (.dK kvs) := by
  obtain ⟨cells, p, l, h, _⟩ := T.ex
  exact ⟨_, h⟩
theorem Tape.same (T : Tape H t c n) (s : Same H H') : Tape H' t c n := by
  obtain ⟨cells, p, l, h, hc, r⟩ := T.ex
  exact ⟨cells, p, l, s _ _ h, s _ _ hc, r⟩
theorem Tape.kp (T : Tape H t c n) (s : Same H H') : Kp t H H' := by
  obtain ⟨kvs, h⟩ := T.dk
  exact Kp.of h s
theorem Tape.mono (T : Tape H t c n) (h : n ≤ m) : Tape H t c m := by
  obtain ⟨cells, p, l, h1, h2, h3, h4, h5, h6⟩ := T.ex
  exact ⟨cells, p, l, h1, h2, h3, h4, Nat.le_trans h5 h, h6⟩
theorem Kp.refl (T : Tape H t c n) : Kp t H H := T.kp (Same.refl H)
/-- a store at an object that is not the tape's -/
theorem Tape.upd {D : Addr} {o : HO} (T : Tape H t c n) (h1 : D ≠ t) (h2 : D ≠ c) : Tape (upd H D o) t c n := by
  obtain ⟨cells, p, l, h, hc, r⟩ := T.ex
  exact ⟨cells, p, l, (upd_ne h1.symm).trans h, (upd_ne h2.symm).trans hc, r⟩
theorem Tape.ne1 {D : Addr} (T : Tape H t c n) (h : H D = none) : D ≠ t := fun z => by
  obtain ⟨cells, p, l, e, hc, r⟩ := T.ex
  rw [z, e] at h
  cases h
theorem Tape.ne2 {D : Addr} (T : Tape H t c n) (h : H D = none) : D ≠ c := fun z => by
  obtain ⟨cells, p, l, e, hc, r⟩ := T.ex
  rw [z, hc] at h
  cases h
theorem Kp.put {D : Addr} {o : HO} (k : Kp t H H') (h : H D = Option.none) (h1 : D ≠ t) : Kp t H (L2.upd H' D o) := by
  obtain ⟨kvs, e⟩ := k.new
  refine ⟨k.old, ⟨kvs, (upd_ne h1.symm).trans e⟩, fun b u n q => ?_⟩
  rw [upd_ne (ne_of_none q h)]
  exact k.oth b u n q
end
theorem ks1 : ¬ (("cells" : Str) = "place") := by decide +kernel
theorem ks2 : ¬ (("cells" : Str) = "left") := by decide +kernel
theorem ks3 : ¬ (("place" : Str) = "left") := by decide +kernel
theorem ks1' : ¬ (("place" : Str) = "cells") := by decide +kernel
theorem ks2' : ¬ (("left" : Str) = "cells") := by decide +kernel
theorem ks3' : ¬ (("left" : Str) = "place") := by decide +kernel
theorem tp_cells (c : Addr) (p l : Int) : valV (tpd c p l) (Sum.inr ("cells" : Str)) = some (.ref c) := by simp [tpd, valV]
theorem tp_place (c : Addr) (p l : Int) : valV (tpd c p l) (Sum.inr ("place" : Str)) = some (.int p) := by simp [tpd, valV, ks1]
theorem tp_left (c : Addr) (p l : Int) : valV (tpd c p l) (Sum.inr ("left" : Str)) = some (.int l) := by simp [tpd, valV, ks2, ks3]
theorem tp_put_place (c : Addr) (p q l : Int) : putK (tpd c p l) (Sum.inr ("place" : Str)) (.int q) = tpd c q l := by simp [putK, tpd, ks1, ks3']
theorem tp_put_left (c : Addr) (p l m : Int) : putK (tpd c p l) (Sum.inr ("left" : Str)) (.int m) = tpd c p m := by simp [putK, tpd, ks2, ks3]
theorem tp_merge (c : Addr) (p l : Int) : mergeK [] (tpd c p l) = tpd c p l := by simp [mergeK, putK, tpd, ks1, ks2, ks3]
theorem g_cells {H : Hp} {t c : Addr} {p l : Int} (h : H t = some (.dK (tpd c p l))) : DGet H t (.str "cells") (some (.ref c)) := by
  have q := DGet.k (k := Sum.inr ("cells" : Str)) h
  rw [tp_cells] at q
  exact q
theorem g_place {H : Hp} {t c : Addr} {p l : Int} (h : H t = some (.dK (tpd c p l))) : DGet H t (.str "place") (some (.int p)) := by
  have q := DGet.k (k := Sum.inr ("place" : Str)) h
  rw [tp_place] at q
  exact q
theorem g_left {H : Hp} {t c : Addr} {p l : Int} (h : H t = some (.dK (tpd c p l))) : DGet H t (.str "left") (some (.int l)) := by
  have q := DGet.k (k := Sum.inr ("left" : Str)) h
  rw [tp_left] at q
  exact q
theorem p_place {H : Hp} {t c : Addr} {p l : Int} (q : Int) (h : H t = some (.dK (tpd c p l))) : DPut H t (.str "place") (.int q) (upd H t (.dK (tpd c q l))) := by
  have z := DPut.k (k := Sum.inr ("place" : Str)) (v := V.int q) h (by show 3 < sizeLine; decide)
  rw [tp_put_place] at z
  exact z
theorem p_left {H : Hp} {t c : Addr} {p l : Int} (q : Int) (h : H t = some (.dK (tpd c p l))) : DPut H t (.str "left") (.int q) (upd H t (.dK (tpd c p q))) := by
  have z := DPut.k (k := Sum.inr ("left" : Str)) (v := V.int q) h (by show 3 < sizeLine; decide)
  rw [tp_put_left] at z
  exact z
def spBegin (K : PySem.W.Frag) : Sp := fun vs H Q _ => ∃ (a : Addr) (ns : List Int), vs = [.ref a] ∧ SqL K H a (ns.map V.int) ∧ ∀ H' t c, Same H H' → H t = none → H c = none → Tape H' t c 0 → Q (.ref t) H'
def spDraw : Sp := fun vs H Q _ => ∃ (t c : Addr) (m : Int) (n : Nat), vs = [.ref t, .int m] ∧ Tape H t c n ∧ n < 2 ^ 40 ∧ 0 < m ∧ m < 2 ^ 30 ∧ ∀ H' r, Kp t H H' → Tape H' t c (n + 1) → 0 ≤ r → r < m → Q (.int r) H'
/-- pick: from a list, from a text -/
def spPick (K : PySem.W.Frag) : Sp := fun vs H Q _ => ∃ (t c : Addr) (n : Nat) (x : V), vs = [.ref t, x] ∧ Tape H t c n ∧ n < 2 ^ 40 ∧
  ((∃ a xs, x = .ref a ∧ SqL K H a xs ∧ xs ≠ [] ∧ xs.length < 2 ^ 30 ∧ ∀ H' y, Kp t H H' → Tape H' t c (n + 1) → y ∈ xs → Q y H') ∨
   (∃ z : Str, x = .str z ∧ z.length ≠ 0 ∧ z.length < 2 ^ 20 ∧ ∀ H' d, Kp t H H' → Tape H' t c (n + 1) → d ∈ z.cps.toList → Q (.str ⟨#[d]⟩) H'))
section
variable {P : Program} {w : World} {K : PySem.W.Frag} {mg : Str → Option Value} {base : Heap}
theorem scBegin : FnScope ["_law_script"] ["_law_script"] (defScope sBegin) := ⟨rfl, rfl, rfl, by decide +kernel, rfl, by decide +kernel, by decide +kernel⟩
theorem cut63 (ns : List Int) : ∃ ms : List Int, cutV (ns.map V.int) none (some 63) = ms.map V.int ∧ ms.length ≤ 63 := by
  refine ⟨ns.take 63, ?_, ?_⟩
  · unfold cutV
    rw [HT.sIx_none, show HT.sIx (ns.map V.int).length (ns.map V.int).length (some 63) = min 63 (ns.map V.int).length from HT.sIx_nat _ _ 63, List.map_take]
    show List.take _ (List.drop 0 _) = _
    rw [List.drop_zero, Nat.sub_zero]
    by_cases c : 63 ≤ (ns.map V.int).length
    · rw [Nat.min_eq_left c]
    · rw [Nat.min_eq_right (by omega), List.take_length, List.take_of_length_le (by omega)]
  · rw [List.length_take]
    omega
theorem ok_begin (D : Df K mg "_law_begin" sBegin ["_law_script"]) : FnOk P w K mg base CX0 1 D.f D.fd ["_law_script"] (spBegin K) := by
  refine D.F.ok scBegin (fun vs H Q E h => ?_) (fun cdv A outer s H vs Q E hr h => ?_)
  · obtain ⟨a, ns, rfl, _⟩ := h
    rfl
  · obtain ⟨a, ns, rfl, hS, k⟩ := h
    refine ⟨_, pss_one (ps_ret (pe_disp (pps_cons pe_str (pe_orT (pe_slice sl_list (pv 0) po_none (po_some pe_int)) (pe_one (pe_lst (pa_cons pe_int pa_nil)))) (pps_cons pe_str pe_int (pps_cons pe_str pe_int pps_nil))) (by rfl) (by rfl) (fun z => by cases z) (by decide))), ?_⟩
    intro t ht
    have s1 : Same H (upd H t (.dK [])) := same_upd ht
    obtain ⟨ms, em, hm⟩ := cut63 ns
    refine ⟨_, rfl, 63, rfl, a, ns.map V.int, rfl, s1.seq hS, fun c hc => ?_⟩
    have nct : c ≠ t := fun z => by
      rw [z, upd_same] at hc
      cases hc
    rw [em]
    refine ⟨!(ms.map V.int).isEmpty, .inl ⟨_, SqL.of upd_same, rfl⟩, ite2 (fun e => ?_) (fun e => ?_)⟩
    · refine ⟨Eq.trans (upd_ne nct.symm) upd_same, tpd c 0 0, rfl, by show 3 ≤ 15; decide, ?_⟩
      rw [tp_merge]
      refine k _ t c (fun b o eb => ?_) ht (s1.free hc) ⟨ms, 0, 0, upd_same, Eq.trans (upd_ne nct) upd_same, ?_, hm, Nat.le_refl _, Int.le_refl _⟩
      · have nb : b ≠ t := ne_of_none eb ht
        rw [upd_ne nb]
        exact same_upd hc _ _ (s1 _ _ eb)
      · cases ms with
        | nil => cases e
        | cons x r => exact Nat.succ_pos _
    · refine ⟨by show 1 ≤ sizeLine; decide, fun d hd => ?_⟩
      have ndt : d ≠ t := fun z => by
        rw [z, upd_ne nct.symm, upd_same] at hd
        cases hd
      refine ⟨Eq.trans (upd_ne ndt.symm) (Eq.trans (upd_ne nct.symm) upd_same), tpd d 0 0, rfl, by show 3 ≤ 15; decide, ?_⟩
      rw [tp_merge]
      refine k _ t d (fun b o eb => ?_) ht (s1.free ((same_upd hc).free hd)) ⟨[0], 0, 0, upd_same, Eq.trans (upd_ne ndt) upd_same, Nat.succ_pos _, by decide, Nat.le_refl _, Int.le_refl _⟩
      have nb : b ≠ t := ne_of_none eb ht
      rw [upd_ne nb]
      exact same_upd hd _ _ (same_upd hc _ _ (s1 _ _ eb))
theorem scDraw : FnScope ["_law_tape", "_law_many", "_law_place", "_law_count", "_law_cell", "_law_found"] ["_law_tape", "_law_many"] (defScope sDraw) := ⟨rfl, rfl, rfl, by decide +kernel, rfl, by decide +kernel, by decide +kernel⟩
theorem tape_put {H : Hp} {t c : Addr} {cells : List Int} {n p : Nat} {l : Int} {kvs : List (Key × V)} (e : H t = some (.dK kvs)) (hc : H c = some (.lst (cells.map V.int))) (h1 : 0 < cells.length) (h2 : cells.length ≤ 63) (hp : p ≤ n) (hl : 0 ≤ l) :
    Tape (upd H t (.dK (tpd c p l))) t c n := by
  have nct : c ≠ t := ne_of hc e (by intro z; cases z)
  exact ⟨cells, p, l, upd_same, Eq.trans (upd_ne nct) hc, h1, h2, hp, hl⟩
theorem kp_put {H : Hp} {t : Addr} {kvs kvs' : List (Key × V)} (e : H t = some (.dK kvs)) : Kp t H (upd H t (.dK kvs')) := ⟨⟨_, e⟩, ⟨_, upd_same⟩, fun b o n h => (upd_ne n).trans h⟩
theorem ok_draw (D : Df K mg "_law_draw" sDraw ["_law_tape", "_law_many"]) (ml : mg "len" = none) : FnOk P w K mg base CX0 1 D.f D.fd ["_law_tape", "_law_many"] spDraw := by
  refine D.F.ok scDraw (fun vs H Q E h => ?_) (fun cdv A outer s H vs Q E hr h => ?_)
  · obtain ⟨t, c, m, n, rfl, _⟩ := h
    rfl
  · obtain ⟨t, c, m, n, rfl, T, hn, m0, m1, k⟩ := h
    have hu := hu_of hr
    refine ⟨_, C8.pss_cut (ps_if (pt_cmpR op_lt (pe_dget hu (pv 0) pe_str (fun _ _ => rfl)) (pv 1) (nomark _))
        (pss_cons (ps_par (i := 2) (j := 3) rfl scDraw.nd rfl rfl (by decide) rfl rfl (pa_cons (pe_dget hu (pv 0) pe_str (fun _ _ => rfl)) (pa_cons (pe_callB call_len_seq (by rfl) ml PySem.boot_len (pa_cons (pe_dget hu (pv 0) pe_str (fun _ _ => rfl)) pa_nil)) pa_nil)) (by rfl))
        (pss_cons (ps_asg (pe_tup (pa_cons (pe_ix ix_list (pe_dget hu (pv 0) pe_str (fun _ _ => rfl)) (pe_op op_mod (pv 2) (pv 3)) (fun _ _ => rfl)) (pa_cons (pe_op op_add (pv 2) pe_int) pa_nil)))
            (pg_tup rfl (pgs_cons (pg_name (i := 4) scDraw.nd rfl (.inl rfl)) (pgs_cons (pg_sub (pv 0) pe_str (set_dict hu)) pgs_nil))))
        (pss_cons (ps_dput hu (pv 0) pe_str (pe_op op_mod (pe_op op_pow (pe_op op_add (pe_op op_add (pe_op op_mod (pv 4) pe_int) (pe_op op_mul pe_int (pv 2))) pe_int) pe_int) (pe_op op_add (pe_op op_pow pe_int pe_int) pe_int)) rfl)
        (pss_one (ps_if (pw_and (pt_cmpR op_ge (pv 4) (pe_op op_pow pe_int pe_int) (nomark _)) (pw_and1 (pt_cmpR op_lt (pv 2) (pv 3) (nomark _)))).pt
          (pss_one (ps_dput hu (pv 0) pe_str (pe_op op_sub (pv 4) (pe_op op_pow pe_int pe_int)) rfl)) pss_nil))))) pss_nil)
      (pss_cons (ps_asg (pe_tup (pa_cons (pe_op op_mod (pe_dget hu (pv 0) pe_str (fun _ _ => rfl)) (pv 1)) (pa_cons (pe_op op_fdiv (pe_dget hu (pv 0) pe_str (fun _ _ => rfl)) (pv 1)) pa_nil)))
            (pg_tup rfl (pgs_cons (pg_name (i := 5) scDraw.nd rfl (.inl rfl)) (pgs_cons (pg_sub (pv 0) pe_str (set_dict hu)) pgs_nil))))
      (pss_one (ps_ret (pv 5)))), ?_⟩
    have m1' : m < 1073741824 := m1
    obtain ⟨cells, p, l, ht, hc, c0, c63, hp, l0⟩ := T.ex
    refine ⟨fun σ' H' => ∃ y2 y3 y4, σ' = [some (.ref t), some (.int m), y2, y3, y4, none] ∧ Kp t H H' ∧ Tape H' t c (n + 1), ?_, ?_⟩
    · refine ⟨.ref t, rfl, t, .int l, rfl, g_left ht, .int m, rfl, l, m, rfl, rfl, _, rfl, ite2 (fun e => ?_) (fun e => ?_)⟩
      · refine ⟨.ref t, rfl, t, .int p, rfl, g_place ht, .ref t, rfl, t, .ref c, rfl, g_cells ht, c, _, rfl, .inl (SqL.of hc), _, _, rfl, ?_⟩
        have lp : 0 < (cells.map V.int).length := by
          rw [List.length_map]
          exact c0
        have jl : p % (cells.map V.int).length < cells.length := by
          have := Nat.mod_lt p lp
          rw [List.length_map] at this ⊢
          exact this
        have ga : (cells.map V.int)[p % (cells.map V.int).length]? = some (.int cells[p % (cells.map V.int).length]) := by
          rw [List.getElem?_map, List.getElem?_eq_getElem jl]
          rfl
        generalize cells[p % (cells.map V.int).length] = z at ga
        refine ⟨.ref t, rfl, t, .ref c, rfl, g_cells ht, _, rfl, _, rfl, (p : Int), ((cells.map V.int).length : Int), rfl, rfl, by omega, c, _, _, .int z, rfl, rfl, SqL.of hc, at_of (j := p % (cells.map V.int).length) (by rw [Int.natCast_emod]) ga, .int p, rfl, (p : Int), 1, rfl, rfl, by show 2 ≤ sizeLine; decide, fun q hq => ?_⟩
        have s1 : Same H (upd H q (.tup [.int z, .int ((p : Int) + 1)])) := same_upd hq
        have ht1 := s1 _ _ ht
        have hc1 := s1 _ _ hc
        have nct : c ≠ t := ne_of hc ht (by intro z; cases z)
        refine ⟨q, _, rfl, SqT.of upd_same, rfl, _, _, rfl, _, _, rfl, .ref t, rfl, t, _, rfl, p_place ((p : Int) + 1) ht1, rfl, ?_⟩
        have hn' : n < 1099511627776 := hn
        have zm0 : 0 ≤ z % 2147483647 := Int.emod_nonneg _ (by decide)
        have zm1 : z % 2147483647 < 2147483647 := Int.emod_lt_of_pos _ (by decide)
        have b0 : (z % 2147483647 + 69621 * (p : Int) + 48271).natAbs < 2 ^ 64 := by omega
        refine ⟨.int z, rfl, z, 2147483647, rfl, rfl, (by show (0 : Int) < 2147483647; decide), .int p, rfl, 69621, (p : Int), rfl, rfl, .inl ⟨by decide, by decide⟩, _, _, rfl, rfl, _, 48271, rfl, rfl, _, 17, rfl, rfl, ⟨by decide, by decide, b0⟩, 10, 50, rfl, rfl, ⟨by decide, by decide, by decide⟩, _, 151, rfl, rfl, _, _, rfl, rfl, ?_, ?_⟩
        · exact (by decide +kernel : (0 : Int) < 10 ^ (50 : Int).toNat + 151)
        have ht2 : (upd (upd H q (.tup [.int z, .int ((p : Int) + 1)])) t (.dK (tpd c ((p : Int) + 1) l))) t = some (.dK (tpd c ((p : Int) + 1) l)) := upd_same
        refine ⟨.ref t, rfl, t, _, rfl, p_left ((z % 2147483647 + 69621 * (p : Int) + 48271) ^ (17 : Int).toNat % (10 ^ (50 : Int).toNat + 151)) ht2, ?_⟩
        have x0 : 0 ≤ (z % 2147483647 + 69621 * (p : Int) + 48271) ^ (17 : Int).toNat % (10 ^ (50 : Int).toNat + 151) := Int.emod_nonneg _ (by decide +kernel)
        generalize (z % 2147483647 + 69621 * (p : Int) + 48271) ^ (17 : Int).toNat % (10 ^ (50 : Int).toNat + 151) = x17 at x0 ⊢
        have k3 : Kp t H (upd (upd (upd H q (.tup [.int z, .int ((p : Int) + 1)])) t (.dK (tpd c ((p : Int) + 1) l))) t (.dK (tpd c ((p : Int) + 1) x17))) := ((Kp.of ht s1).trans (kp_put ht1)).trans (kp_put ht2)
        have hc3 := k3.at hc (fun _ z => by cases z)
        refine ⟨.int z, rfl, 10, 18, rfl, rfl, ⟨by decide, by decide, by decide⟩, z, _, rfl, rfl, _, rfl, ite2 (fun e2 => ?_) (fun e2 => ?_)⟩
        · refine ⟨.int p, rfl, _, rfl, _, _, rfl, rfl, _, rfl, ite2 (fun e3 => ?_) (fun e3 => ?_)⟩
          · have hz : (0 : Int) ≤ z - 10 ^ (18 : Int).toNat := by
              have e4 : (10 : Int) ^ (18 : Int).toNat ≤ z := of_decide_eq_true e2
              omega
            refine ⟨.int z, rfl, 10, 18, rfl, rfl, ⟨by decide, by decide, by decide⟩, z, _, rfl, rfl, .ref t, rfl, t, _, rfl, p_left (z - 10 ^ (18 : Int).toNat) upd_same, ?_⟩
            exact ⟨_, _, _, rfl, k3.trans (kp_put upd_same), tape_put (p := p + 1) upd_same hc3 c0 c63 (by omega) hz⟩
          · exact ⟨_, _, _, rfl, k3, ⟨cells, p + 1, x17, upd_same, hc3, c0, c63, by omega, x0⟩⟩
        · exact ⟨_, _, _, rfl, k3, ⟨cells, p + 1, x17, upd_same, hc3, c0, c63, by omega, x0⟩⟩
      · exact ⟨none, none, none, rfl, Kp.refl T, T.mono (Nat.le_succ n)⟩
    · rintro σ' H' ⟨y2, y3, y4, rfl, k1, T1⟩
      obtain ⟨cells, p, l, ht, hc, c0, c63, hp, l0⟩ := T1.ex
      refine ⟨.ref t, rfl, t, .int l, rfl, g_left ht, .int m, rfl, l, m, rfl, rfl, m0, .ref t, rfl, t, .int l, rfl, g_left ht, .int m, rfl, l, m, rfl, rfl, ⟨m0, m1⟩, by show 2 ≤ sizeLine; decide, fun q hq => ?_⟩
      have s1 : Same H' (upd H' q (.tup [.int (l % m), .int (l / m)])) := same_upd hq
      have ht1 := s1 _ _ ht
      refine ⟨q, _, rfl, SqT.of upd_same, rfl, _, _, rfl, _, _, rfl, .ref t, rfl, t, _, rfl, p_left (l / m) ht1, rfl, ?_⟩
      refine ⟨_, rfl, k _ _ ((k1.trans (T1.kp s1)).trans (kp_put ht1)) (tape_put ht1 (s1 _ _ hc) c0 c63 hp (Int.ediv_nonneg l0 (by omega))) (Int.emod_nonneg _ (by omega)) (Int.emod_lt_of_pos _ m0)⟩
theorem at_cp {α : Type} {xs : List α} {z : Int} {j : Nat} {v : α} (e : z = (j : Int)) (h : xs[j]? = some v) : atI xs z = some v := by
  rw [e]
  exact atI_nat h
theorem scPick : FnScope ["_law_tape", "_law_items"] ["_law_tape", "_law_items"] (defScope sPick) := ⟨rfl, rfl, rfl, by decide +kernel, rfl, by decide +kernel, by decide +kernel⟩
theorem ok_pick (D : Df K mg "_law_pick" sPick ["_law_tape", "_law_items"]) (Dd : Df K mg "_law_draw" sDraw ["_law_tape", "_law_many"]) (ml : mg "len" = none) : FnOk P w K mg base CX0 2 D.f D.fd ["_law_tape", "_law_items"] (spPick K) := by
  have Gd : FnOk P w K mg base CX0 1 Dd.f Dd.fd ["_law_tape", "_law_many"] spDraw := ok_draw Dd ml
  refine D.F.ok scPick (fun vs H Q E h => ?_) (fun cdv A outer s H vs Q E hr h => ?_)
  · obtain ⟨t, c, n, x, rfl, _⟩ := h
    rfl
  · obtain ⟨t, c, n, x, rfl, T, hn, h⟩ := h
    rcases h with ⟨a, xs, rfl, hx, ne, hl, k⟩ | ⟨z, rfl, ne, hl, k⟩
    · refine ⟨_, pss_one (ps_ret (pe_ix ix_list (pv 1) (pe_call Gd hr (by rfl) Dd.g Dd.F.kp Dd.b .nil pass0 (pa_cons (pv 0) (pa_cons (pe_callB call_len_seq (by rfl) ml PySem.boot_len (pa_cons (pv 1) pa_nil)) pa_nil))) (fun _ _ => rfl))), ?_⟩
      have l0 : 0 < xs.length := List.length_pos_iff.mpr ne
      refine ⟨.ref a, rfl, .ref t, rfl, .ref a, rfl, a, xs, rfl, .inl hx, t, c, _, n, rfl, T, hn, by omega, by omega, fun H' r k1 T1 r0 r1 => ?_⟩
      have rl : r.toNat < xs.length := by omega
      refine ⟨a, xs, r, xs[r.toNat], rfl, rfl, k1.lst hx, at_of (j := r.toNat) (by omega) (List.getElem?_eq_getElem rl), k H' _ k1 T1 (List.getElem_mem rl)⟩
    · refine ⟨_, pss_one (ps_ret (pe_ix ix_str (pv 1) (pe_call Gd hr (by rfl) Dd.g Dd.F.kp Dd.b .nil pass0 (pa_cons (pv 0) (pa_cons (pe_callB call_len_str (by rfl) ml PySem.boot_len (pa_cons (pv 1) pa_nil)) pa_nil))) (fun _ _ => rfl))), ?_⟩
      have zl : z.cps.toList.length = z.length := Array.length_toList
      refine ⟨.str z, rfl, .ref t, rfl, .str z, rfl, z, rfl, ?_, t, c, _, n, rfl, T, hn, by omega, by omega, fun H' r k1 T1 r0 r1 => ?_⟩
      · rw [sizeLine_eq]; omega
      have rl : r.toNat < z.cps.toList.length := by omega
      refine ⟨z, r, z.cps.toList[r.toNat], rfl, rfl, ?_, at_cp (by omega) (List.getElem?_eq_getElem rl), k H' _ k1 T1 (List.getElem_mem rl)⟩
      rw [sizeLine_eq]
      omega
end
end DW
namespace DW
open PySem PySem.Spec PyProof.Rows L2 TL
set_option autoImplicit false
/-! ### texts as lists of codes -/
def one (c : Nat) : Str := ⟨#[c]⟩
theorem tl_one (c : Nat) : tl (one c) = [c] := rfl
theorem tl_inj {x y : Str} (h : tl x = tl y) : x = y := by
  obtain ⟨⟨a⟩⟩ := x
  obtain ⟨⟨b⟩⟩ := y
  have e : a = b := h
  rw [e]
theorem joinL_nil : ∀ l : List (List Nat), joinL [] l = l.flatten
  | [] => rfl
  | [p] => by simp [joinL]
  | p :: q :: r => by
    show p ++ ([] ++ joinL [] (q :: r)) = (p :: q :: r).flatten
    rw [joinL_nil (q :: r)]
    simp
theorem tl_cat (ys : List Str) : tl (Txt.join "" ys) = (ys.map tl).flatten := by
  have e : tl (Str.join "" ys) = joinL (tl "") (ys.map tl) := tl_join "" ys
  rw [join_eq, e, show tl "" = [] from rfl, joinL_nil]
theorem flat_ones (cs : List Nat) : ((cs.map one).map tl).flatten = cs := by
  induction cs with
  | nil => rfl
  | cons c r ih =>
    show [c] ++ ((r.map one).map tl).flatten = c :: r
    rw [ih]
    rfl
theorem lt_ones (x p : Nat) : ltCps (tl (one x)) (tl (one p)) = decide (x < p) := by
  simp [one, ltCps]
theorem sorted_ones : ∀ ys : List Str, (∀ y ∈ ys, ∃ c, y = one c) → ys.Nodup → sortedS ys = true → ∃ cs : List Nat, ys = cs.map one ∧ cs.Pairwise (· < ·)
  | [], _, _, _ => ⟨[], rfl, List.Pairwise.nil⟩
  | [y], h, _, _ => by
    obtain ⟨c, rfl⟩ := h y List.mem_cons_self
    exact ⟨[c], rfl, List.pairwise_singleton _ _⟩
  | y :: z :: r, h, nd, so => by
    obtain ⟨hy, nd'⟩ := List.nodup_cons.mp nd
    obtain ⟨c, rfl⟩ := h y List.mem_cons_self
    obtain ⟨d, rfl⟩ := h z (List.mem_cons_of_mem _ List.mem_cons_self)
    have so' : (!ltCps (tl (one d)) (tl (one c)) && risingS (one d) r) = true := so
    rw [Bool.and_eq_true] at so'
    obtain ⟨cs, e, pw⟩ := sorted_ones (one d :: r) (fun u hu => h u (List.mem_cons_of_mem _ hu)) nd' so'.2
    have lt : c < d := by
      have q := so'.1
      rw [lt_ones] at q
      have n1 : ¬ d < c := by simpa using q
      have n2 : c ≠ d := fun z => hy (by rw [z]; exact List.mem_cons_self)
      omega
    cases cs with
    | nil => cases e
    | cons d' cs =>
      have e1 : one d = one d' := (List.cons.inj e).1
      have e2 : d = d' := by
        have q := congrArg tl e1
        exact (List.cons.inj q).1
      subst e2
      refine ⟨c :: d :: cs, by rw [List.map_cons, ← e], List.pairwise_cons.mpr ⟨fun u hu => ?_, pw⟩⟩
      rcases List.mem_cons.mp hu with q | q
      · omega
      · have := (List.pairwise_cons.mp pw).1 u q
        omega
theorem sum_ones : ∀ ys : List Str, (∀ y ∈ ys, ∃ c, y = one c) → (ys.map (·.length)).sum = ys.length
  | [], _ => rfl
  | y :: r, h => by
    obtain ⟨c, rfl⟩ := h y List.mem_cons_self
    rw [List.map_cons, List.sum_cons, sum_ones r fun u hu => h u (List.mem_cons_of_mem _ hu), List.length_cons]
    show 1 + r.length = r.length + 1
    omega
theorem yes {σ : L2.St} {H : Hp} {F G : Hp → Prop} (h : F H) : tYes σ H (fun b H3 => if b = true then F H3 else G H3) := by
  show (if true = true then F H else G H)
  rw [if_pos rfl]
  exact h
/-- an alphabet -/
def Alph (z : Str) : Prop := (tl z).Pairwise (· < ·) ∧ 1 ≤ (tl z).length ∧ (tl z).length ≤ 3 ∧ ∀ c ∈ tl z, 97 ≤ c ∧ c ≤ 122
def abc : Str := "abcdefghijklmnopqrstuvwxyz"
theorem abc_low : ∀ c ∈ tl abc, 97 ≤ c ∧ c ≤ 122 := by decide +kernel
theorem abc_len : (tl abc).length = 26 := by decide +kernel
theorem al1 : Alph "ab" := by unfold Alph; decide +kernel
theorem al2 : Alph "abc" := by unfold Alph; decide +kernel
theorem al3 : Alph "a" := by unfold Alph; decide +kernel
theorem al4 : Alph "bx" := by unfold Alph; decide +kernel
theorem al5 : Alph "cmz" := by unfold Alph; decide +kernel
theorem alph_of {ds : List Nat} {ls ys : List Str} (h1 : 1 ≤ ds.length) (h3 : ds.length ≤ 3) (low : ∀ c ∈ ds, 97 ≤ c ∧ c ≤ 122) (nd : ls.Nodup) (mem : ∀ k, k ∈ ls ↔ k ∈ ds.map one) (le : ls.length ≤ (ds.map one).length)
    (pm : ys.Perm ls) (so : sortedS ys = true) : Alph (Txt.join "" ys) := by
  have hm : ∀ y ∈ ys, y ∈ ds.map one := fun y hy => (mem y).mp (pm.mem_iff.mp hy)
  obtain ⟨cs, rfl, pw⟩ := sorted_ones ys (fun y hy => by
    obtain ⟨c, _, e⟩ := List.mem_map.mp (hm y hy)
    exact ⟨c, e.symm⟩) (pm.nodup_iff.mpr nd) so
  have e : tl (Txt.join "" (cs.map one)) = cs := by rw [tl_cat, flat_ones]
  have hl : cs.length = ls.length := by
    have q := pm.length_eq
    rw [List.length_map] at q
    exact q
  rw [List.length_map] at le
  unfold Alph
  rw [e]
  refine ⟨pw, ?_, by omega, fun c hc => ?_⟩
  · cases ds with
    | nil => cases h1
    | cons d r =>
      have q : one d ∈ ls := (mem _).mpr List.mem_cons_self
      have q2 : one d ∈ cs.map one := pm.mem_iff.mpr q
      have := List.length_pos_of_mem q2
      rw [List.length_map] at this
      omega
  · obtain ⟨d, hd, e⟩ := List.mem_map.mp (hm (one c) (List.mem_map.mpr ⟨c, hc, rfl⟩))
    have e2 : d = c := by
      have q := congrArg tl e
      exact (List.cons.inj q).1
    rw [← e2]
    exact low d hd
/-! ### what the module's names hold -/
structure Bl (mg : Str → Option Value) : Prop where
  len : mg "len" = none
  range : mg "range" = none
  sorted : mg "sorted" = none
  set : mg "set" = none
def spAlpha : Sp := fun vs H Q _ => ∃ (t c : Addr) (n : Nat), vs = [.ref t] ∧ Tape H t c n ∧ n + 10 < 2 ^ 40 ∧ ∀ H' z, Kp t H H' → Tape H' t c (n + 10) → Alph z → Q (.str z) H'
abbrev DfDraw (K : PySem.W.Frag) (mg : Str → Option Value) := Df K mg "_law_draw" sDraw ["_law_tape", "_law_many"]
abbrev DfPick (K : PySem.W.Frag) (mg : Str → Option Value) := Df K mg "_law_pick" sPick ["_law_tape", "_law_items"]
end DW
namespace DW
open PySem PySem.Spec PyProof.Rows L2 TL
set_option autoImplicit false
section
variable {P : Program} {w : World} {K : PySem.W.Frag} {mg : Str → Option Value} {base : Heap}
theorem scAlpha : FnScope ["_law_tape", "_law_letters", "_law_drawn", "_law_k"] ["_law_tape"] (defScope sAlpha) := ⟨rfl, rfl, rfl, by decide +kernel, rfl, by decide +kernel, by decide +kernel⟩
theorem ok_alpha (D : Df K mg "_law_alphabet" sAlpha ["_law_tape"]) (Dd : DfDraw K mg) (Dp : DfPick K mg) (B : Bl mg) : FnOk P w K mg base CX0 3 D.f D.fd ["_law_tape"] spAlpha := by
  have Gd : FnOk P w K mg base CX0 1 Dd.f Dd.fd ["_law_tape", "_law_many"] spDraw := ok_draw Dd B.len
  have Gp : FnOk P w K mg base CX0 2 Dp.f Dp.fd ["_law_tape", "_law_items"] (spPick K) := ok_pick Dp Dd B.len
  refine D.F.ok scAlpha (fun vs H Q E h => ?_) (fun cdv A outer s H vs Q E hr h => ?_)
  · obtain ⟨t, c, n, rfl, _⟩ := h
    rfl
  · obtain ⟨t, c, n, rfl, T, hn, k⟩ := h
    have hr1 : Room 1 _ := hr.mono (by decide)
    refine ⟨_, pss_cons (ps_set (i := 1) scAlpha.nd rfl (Or.inr rfl) pe_str)
      (pss_cons (ps_setLc (i := 2) (own := [("_law_k", 3)]) (g := gName 3) (tt := tYes) rfl scAlpha.nd rfl rfl (sw_true rfl rfl rfl (by decide +kernel))
        (pi_range1 rfl B.range (pa_cons (pe_op op_add pe_int (pe_call Gd hr1 (by rfl) Dd.g Dd.F.kp Dd.b .nil pass0 (pa_cons (pv 0) (pa_cons pe_int pa_nil)))) pa_nil))
        (blkOk_by (N := ["_law_tape", "_law_letters", "_law_drawn", "_law_k"]) (sc := defScope sAlpha) (by decide +kernel)) (fun _ _ _ _ _ => pg_name (i := 3) scAlpha.nd rfl (Or.inl rfl)) (fun _ _ _ _ _ => pts_nil)
        (fun _ _ _ _ _ => pe_ix ix_str (pv 1) (pe_call Gd hr1 (by rfl) Dd.g Dd.F.kp Dd.b .nil pass0 (pa_cons (pv 0) (pa_cons pe_int pa_nil))) (fun _ _ => rfl)))
      (pss_one (ps_ret (pe_call Gp hr (by rfl) Dp.g Dp.F.kp Dp.b .nil pass0 (pa_cons (pv 0) (pa_cons
        (pe_op op_cat (pe_lst (pa_cons pe_str (pa_cons pe_str (pa_cons pe_str (pa_cons pe_str (pa_cons pe_str pa_nil))))))
          (pe_op op_rep (pe_lst (pa_cons (pe_join pe_str (pe_callB (TX.cr_sortTx rfl) (by rfl) B.sorted (by decide +kernel) (pa_cons (pe_callTy (TX.cr_setL rfl) (by rfl) B.set (by decide +kernel) (pa_cons (pv 2) pa_nil)) pa_nil))) pa_nil)) pe_int)) pa_nil)))))), ?_⟩
    refine ⟨.ref t, rfl, t, c, 3, n, rfl, T, by omega, by decide, by decide, fun H1 r k1 T1 r0 r1 => ?_⟩
    refine ⟨1, r, rfl, rfl, 1 + r, rfl, by omega, by omega, fun D hD => ?_⟩
    have D1 := T1.ne1 hD
    have D2 := T1.ne2 hD
    have D0 := k1.gone hD
    refine lc_range (lo := 0) (n := (1 + r).toNat) (fun i H' => ∃ ds : List Nat, ds.length = i ∧ (∀ c ∈ ds, 97 ≤ c ∧ c ≤ 122) ∧ H' D = some (.lst ((ds.map one).map V.str)) ∧ Kp t H H' ∧ Tape H' t c (n + 1 + i)) ?_ ?_ ?_
    · exact ⟨[], rfl, fun c hc => (nomatch hc), upd_same, k1.put D0 D1, T1.upd D1 D2⟩
    · rintro i G hi ⟨ds, dl, low, gD, kG, TG⟩
      refine ⟨rfl, yes ?_⟩
      refine ⟨.str abc, rfl, .ref t, rfl, t, c, 26, n + 1 + i, rfl, TG, by omega, by decide, by decide, fun H4 q k4 T4 q0 q1 => ?_⟩
      have ql : q.toNat < (tl abc).length := by
        rw [abc_len]
        omega
      have gD4 := k4.at gD (fun _ z => by cases z)
      refine ⟨abc, q, (tl abc)[q.toNat], rfl, rfl, by decide +kernel, at_cp (j := q.toNat) (by omega) (List.getElem?_eq_getElem ql), _, gD4, ?_, ?_⟩
      · rw [List.length_map, List.length_map, dl, sizeLine_eq]
        omega
      · refine ⟨ds ++ [(tl abc)[q.toNat]], by rw [List.length_append, dl]; rfl, fun c hc => ?_, ?_, ?_, ?_⟩
        · rcases List.mem_append.mp hc with z | z
          · exact low c z
          · rw [List.mem_singleton.mp z]
            exact abc_low _ (List.getElem_mem ql)
        · rw [upd_same, List.map_append, List.map_append]
          rfl
        · exact (kG.trans k4).put D0 D1
        · exact T4.upd D1 D2
    · rintro G ⟨ds, dl, low, gD, kG, TG⟩
      refine ⟨.ref t, rfl, by show 5 ≤ sizeLine; decide, fun l1 e1 => ?_⟩
      have s1 := same_upd (o := .lst [V.str "ab", V.str "abc", V.str "a", V.str "bx", V.str "cmz"]) e1
      refine ⟨⟨_, rfl⟩, .ref D, rfl, D, ds.map one, rfl, SqL.of (s1 _ _ gD), ?_, fun a ls ea nd mem le => ?_⟩
      · rw [List.length_map, dl]
        unfold scanBound
        omega
      have s2 := same_upd (o := TX.SetTx P w a ls) ea
      refine ⟨a, ls, rfl, upd_same, ?_, fun ys p pm so ep => ?_⟩
      · rw [List.length_map] at le
        omega
      have al := alph_of (by omega) (by omega) low nd mem le pm so
      have s3 := same_upd (o := .lst (ys.map V.str)) ep
      refine ⟨"", p, ys, rfl, rfl, .inl (SqL.of upd_same), ?_, by show 1 ≤ sizeLine; decide, fun l2 e2 => ?_⟩
      · rw [sum_ones ys fun y hy => ?_]
        · rw [pm.length_eq]
          rw [List.length_map] at le
          show ls.length + ls.length * 0 ≤ 16777216
          omega
        · obtain ⟨u, _, e⟩ := List.mem_map.mp ((mem y).mp (pm.mem_iff.mp hy))
          exact ⟨u, e.symm⟩
      have s4 := same_upd (o := .lst [V.str (Txt.join "" ys)]) e2
      refine ⟨l2, 5, _, rfl, rfl, upd_same, by decide, by decide, by show 1 * 5 ≤ sizeLine; decide, fun l3 e3 => ?_⟩
      have s5 := same_upd (o := .lst (List.replicate (5 : Int).toNat [V.str (Txt.join "" ys)]).flatten) e3
      refine ⟨l1, l3, _, _, rfl, rfl, s5 _ _ (s4 _ _ (s3 _ _ (s2 _ _ upd_same))), upd_same, by show 5 + 5 ≤ sizeLine; decide, fun l4 e4 => ?_⟩
      have s6 := same_upd (o := .lst ([V.str "ab", V.str "abc", V.str "a", V.str "bx", V.str "cmz"] ++ (List.replicate (5 : Int).toNat [V.str (Txt.join "" ys)]).flatten)) e4
      have sa := ((((s1.trans s2).trans s3).trans s4).trans s5).trans s6
      refine ⟨t, c, n + 1 + (1 + r).toNat, .ref l4, rfl, TG.same sa, by omega, .inl ⟨l4, _, rfl, SqL.of upd_same, by simp, by show 10 < 2 ^ 30; decide, fun H' y k' T' hy => ?_⟩⟩
      have hy' : ∃ z, y = V.str z ∧ Alph z := by
        rcases List.mem_append.mp hy with q | q
        · simp only [List.mem_cons, List.not_mem_nil, or_false] at q
          rcases q with q | q | q | q | q
          · exact ⟨_, q, al1⟩
          · exact ⟨_, q, al2⟩
          · exact ⟨_, q, al3⟩
          · exact ⟨_, q, al4⟩
          · exact ⟨_, q, al5⟩
        · obtain ⟨u, hu, hy⟩ := List.mem_flatten.mp q
          rw [List.eq_of_mem_replicate hu] at hy
          exact ⟨_, List.mem_singleton.mp hy, al⟩
      obtain ⟨z, rfl, az⟩ := hy'
      exact k H' z ((kG.trans (TG.kp sa)).trans k') (T'.mono (by omega)) az
end
end DW
namespace DW
open PySem PySem.Spec PyProof.Rows L2 TL
set_option autoImplicit false
/-! ### text * int, repr(text) -/
theorem foldl_app : ∀ (l : List (Array Nat)) (acc : Array Nat), (l.foldl (· ++ ·) acc).toList = acc.toList ++ (l.map Array.toList).flatten
  | [], acc => by simp
  | a :: r, acc => by
    rw [List.foldl_cons, foldl_app r, Array.toList_append, List.map_cons, List.flatten_cons, List.append_assoc]
theorem tl_mul (z : Str) (k : Int) : tl (Txt.mul z k) = (List.replicate k.toNat (tl z)).flatten := by
  unfold Txt.mul
  by_cases h : k < 1
  · rw [if_pos h, show k.toNat = 0 by omega]
    rfl
  · rw [if_neg h]
    by_cases h2 : (k == 1 || z.length == 0) = true
    · rw [if_pos h2]
      rw [Bool.or_eq_true] at h2
      rcases h2 with e | e
      · rw [eq_of_beq e]
        simp
      · have e0 : tl z = [] := List.length_eq_zero_iff.mp (by rw [Array.length_toList]; exact eq_of_beq e)
        rw [e0]
        simp
    · rw [if_neg h2]
      show ((List.replicate k.toNat z.cps).foldl (· ++ ·) #[]).toList = _
      rw [foldl_app, List.map_replicate]
      simp
section
variable {X : Cx}
def rRepS : R2 := fun x y H Q => ∃ (z : Str) (k : Int), x = .str z ∧ y = .int k ∧ 0 ≤ k ∧ k ≤ 1000 ∧ z.length ≤ 1000 ∧ ∀ r : Str, tl r = (List.replicate k.toNat (tl z)).flatten → Q (.str r) H
theorem op_repS : OpR X (binaryOp .Mult) rRepS := by
  intro pins s σ H x y v u Q I rx ry h
  obtain ⟨z, k, rfl, rfl, k0, k1, zl, q⟩ := h
  obtain ⟨t, rfl⟩ := rx
  obtain ⟨t2, rfl⟩ := ry
  have pr : z.length * k.toNat ≤ 1000 * 1000 := Nat.mul_le_mul zl (by omega)
  refine SB.mul ⟨?_, fun h1 _ h3 => ?_, fun _ _ => ?_⟩ fun t' tk => ⟨.str (Txt.mul z k), H, I.tok _, ⟨_, rfl⟩, q _ (tl_mul z k)⟩
  · have a : ¬ k < -(2 ^ 63) := by omega
    have b : ¬ k ≥ 2 ^ 63 := by omega
    simp [a, b]
    omega
  · have e : (z.length : Int) ≤ (2 ^ 63 - 1) / k := by
      rw [Int.le_ediv_iff_mul_le (by omega)]
      have : ((z.length * k.toNat : Nat) : Int) ≤ 1000 * 1000 := by exact_mod_cast pr
      rw [Int.natCast_mul, Int.toNat_of_nonneg k0] at this
      omega
    omega
  · unfold Builtin.Str.tooLong
    rw [sizeLine_eq]
    simp
    omega
theorem cr_reprS : CallR X (.builtin "repr") (fun xs H Q => ∃ y : Str, xs = [.str y] ∧ (reprText y).length ≤ sizeLine ∧ Q (.str (reprText y)) H) := by
  intro pins s σ H xs us Q I r h
  obtain ⟨y, rfl, hz, q⟩ := h
  obtain ⟨u, rfl, t, rfl⟩ := vals1 r
  exact PySem.P.repr_of_str ⟨.str _, H, I.tok _, ⟨_, rfl⟩, q⟩ hz
end
theorem rc_le : ∀ c, c < 128 → (Builtin.Str.reprChar 34 c).length ≤ 4 ∧ (Builtin.Str.reprChar 39 c).length ≤ 4 := by decide +kernel
theorem rq (x : Str) : reprQuote x = 34 ∨ reprQuote x = 39 := by
  unfold reprQuote
  split
  · exact .inl rfl
  · exact .inr rfl
theorem repr_fold (q : Nat) (hq : q = 34 ∨ q = 39) : ∀ (l : List Nat) (n : Nat), (∀ c ∈ l, c < 128) → l.foldl (fun n c => n + (Builtin.Str.reprChar q c).length) n ≤ n + 4 * l.length
  | [], n, _ => by simp
  | c :: r, n, h => by
    have h1 := rc_le c (h c List.mem_cons_self)
    have h2 : (Builtin.Str.reprChar q c).length ≤ 4 := by
      rcases hq with e | e
      · rw [e]; exact h1.1
      · rw [e]; exact h1.2
    have ih := repr_fold q hq r (n + (Builtin.Str.reprChar q c).length) fun d hd => h d (List.mem_cons_of_mem _ hd)
    rw [List.foldl_cons, List.length_cons]
    omega
theorem repr_le {x : Str} (h : ∀ c ∈ tl x, c < 128) : (reprText x).length ≤ 2 + 4 * (tl x).length := by
  rw [← reprLen_eq, ← Array.foldl_toList]
  exact repr_fold _ (rq x) _ _ h
/-! ### factors, products -/
abbrev Fc := Bool × Str
def kd (b : Bool) : Str := if b then "star" else "opt"
def IsF (K : PySem.W.Frag) (H : Hp) (v : V) (f : Fc) : Prop := ∃ a, v = .ref a ∧ SqT K H a [.str (kd f.1), .str f.2]
def FOk (z : Str) (f : Fc) : Prop := tl f.2 ≠ [] ∧ (tl f.2).Sublist (tl z) ∧ (f.1 = false → (tl f.2).length = 1)
inductive IsFs (K : PySem.W.Frag) (H : Hp) : List V → List Fc → Prop where
  | nil : IsFs K H [] []
  | cons {v : V} {f : Fc} {vs : List V} {fs : List Fc} (h : IsF K H v f) (r : IsFs K H vs fs) : IsFs K H (v :: vs) (f :: fs)
theorem IsFs.snoc {K : PySem.W.Frag} {H : Hp} {v : V} {f : Fc} : ∀ {vs : List V} {fs : List Fc}, IsFs K H vs fs → IsF K H v f → IsFs K H (vs ++ [v]) (fs ++ [f])
  | _, _, .nil, h => .cons h .nil
  | _, _, .cons a r, h => .cons a (r.snoc h)
theorem IsFs.len {K : PySem.W.Frag} {H : Hp} : ∀ {vs : List V} {fs : List Fc}, IsFs K H vs fs → vs.length = fs.length
  | _, _, .nil => rfl
  | _, _, .cons _ r => by rw [List.length_cons, List.length_cons, r.len]
theorem IsFs.get {K : PySem.W.Frag} {H : Hp} : ∀ {vs : List V} {fs : List Fc}, IsFs K H vs fs → ∀ (i : Nat) (v : V), vs[i]? = some v → ∃ f, fs[i]? = some f ∧ IsF K H v f
  | _, _, .nil, i, v, h => by simp at h
  | _, _, .cons a r, 0, v, h => by
    have e := Option.some.inj h
    subst e
    exact ⟨_, rfl, a⟩
  | _, _, .cons a r, i + 1, v, h => r.get i v h
theorem IsF.mono {K : PySem.W.Frag} {H H' : Hp} {v : V} {f : Fc} (h : IsF K H v f) (m : ∀ b xs, SqT K H b xs → SqT K H' b xs) : IsF K H' v f := by
  obtain ⟨a, e, q⟩ := h
  exact ⟨a, e, m _ _ q⟩
theorem IsFs.mono {K : PySem.W.Frag} {H H' : Hp} (m : ∀ b xs, SqT K H b xs → SqT K H' b xs) : ∀ {vs : List V} {fs : List Fc}, IsFs K H vs fs → IsFs K H' vs fs
  | _, _, .nil => .nil
  | _, _, .cons a r => .cons (a.mono m) (r.mono m)
theorem same_tup {H H' : Hp} {K : PySem.W.Frag} (s : Same H H') (b : Addr) (xs : List V) (h : SqT K H b xs) : SqT K H' b xs := by
  rcases h with (h | ⟨o, h⟩) | h
  · exact .inl (.inl (s _ _ h))
  · exact .inl (.inr ⟨o, s _ _ h⟩)
  · exact .inr h
theorem kp_tup {t : Addr} {H H' : Hp} {K : PySem.W.Frag} (k : Kp t H H') (b : Addr) (xs : List V) (h : SqT K H b xs) : SqT K H' b xs := k.tup h
/-- a store at what is no tuple -/
theorem upd_tup {H : Hp} {D : Addr} {xs0 : List V} {o : HO} {K : PySem.W.Frag} (hD : H D = some (.lst xs0)) (b : Addr) (xs : List V) (h : SqT K H b xs) : SqT K (upd H D o) b xs := by
  rcases h with (h | ⟨u, h⟩) | h
  · exact .inl (.inl ((upd_ne (ne_of h hD (by intro z; cases z))).trans h))
  · exact .inl (.inr ⟨u, (upd_ne (ne_of h hD (by intro z; cases z))).trans h⟩)
  · exact .inr h
def IsP (K : PySem.W.Frag) (H : Hp) (v : V) (fs : List Fc) : Prop := ∃ a xs, v = .ref a ∧ SqT K H a xs ∧ IsFs K H xs fs
theorem IsP.mono {K : PySem.W.Frag} {H H' : Hp} {v : V} {fs : List Fc} (h : IsP K H v fs) (m : ∀ b xs, SqT K H b xs → SqT K H' b xs) : IsP K H' v fs := by
  obtain ⟨a, xs, e, q, r⟩ := h
  exact ⟨a, xs, e, m _ _ q, r.mono m⟩
def spFactor (K : PySem.W.Frag) : Sp := fun vs H Q _ => ∃ (t c : Addr) (n : Nat) (z : Str), vs = [.ref t, .str z] ∧ Tape H t c n ∧ n + 10 < 2 ^ 40 ∧ Alph z ∧ ∀ H' v f, Kp t H H' → Tape H' t c (n + 10) → IsF K H' v f → FOk z f → Q v H'
def spProduct (K : PySem.W.Frag) : Sp := fun vs H Q _ => ∃ (t c : Addr) (n : Nat) (z : Str) (m : Int), vs = [.ref t, .str z, .int m] ∧ Tape H t c n ∧ n + 1000 < 2 ^ 40 ∧ Alph z ∧ 0 ≤ m ∧ m ≤ 50 ∧
  ∀ H' v fs, Kp t H H' → Tape H' t c (n + 1000) → IsP K H' v fs → (∀ f ∈ fs, FOk z f) → (fs.length : Int) ≤ m → Q v H'
section
variable {P : Program} {w : World} {K : PySem.W.Frag} {mg : Str → Option Value} {base : Heap}
theorem scFactor : FnScope ["_law_tape", "_law_alphabet_here", "_law_letters", "_law_letter"] ["_law_tape", "_law_alphabet_here"] (defScope sFactor) := ⟨rfl, rfl, rfl, by decide +kernel, rfl, by decide +kernel, by decide +kernel⟩
theorem ok_factor (D : Df K mg "_law_factor" sFactor ["_law_tape", "_law_alphabet_here"]) (Dd : DfDraw K mg) (Dp : DfPick K mg) (B : Bl mg) : FnOk P w K mg base CX0 3 D.f D.fd ["_law_tape", "_law_alphabet_here"] (spFactor K) := by
  have Gd : FnOk P w K mg base CX0 1 Dd.f Dd.fd ["_law_tape", "_law_many"] spDraw := ok_draw Dd B.len
  have Gp : FnOk P w K mg base CX0 2 Dp.f Dp.fd ["_law_tape", "_law_items"] (spPick K) := ok_pick Dp Dd B.len
  refine D.F.ok scFactor (fun vs H Q E h => ?_) (fun cdv A outer s H vs Q E hr h => ?_)
  · obtain ⟨t, c, n, z, rfl, _⟩ := h
    rfl
  · obtain ⟨t, c, n, z, rfl, T, hn, al, k⟩ := h
    have hr1 : Room 1 _ := hr.mono (by decide)
    have zl : z.length = (tl z).length := (Array.length_toList).symm
    obtain ⟨pw, l1, l3, low⟩ := al
    refine ⟨_, pss_cons (ps_if (pt_cmpR op_gt (pe_call Gd hr1 (by rfl) Dd.g Dd.F.kp Dd.b .nil pass0 (pa_cons (pv 0) (pa_cons pe_int pa_nil))) pe_int (nomark _))
        (pss_one (ps_ret (pe_tup (pa_cons pe_str (pa_cons (pe_call Gp hr (by rfl) Dp.g Dp.F.kp Dp.b .nil pass0 (pa_cons (pv 0) (pa_cons (pv 1) pa_nil))) pa_nil))))) pss_nil)
      (pss_cons (ps_set (i := 2) scFactor.nd rfl (Or.inl rfl) (pe_join pe_str (pe_lc (own := [("_law_letter", 3)]) (g := gName 3) rfl scFactor.nd (pi_str (pv 1))
          (blkOk_by (N := ["_law_tape", "_law_alphabet_here", "_law_letters", "_law_letter"]) (sc := defScope sFactor) (by decide +kernel)) (fun _ _ _ _ _ => pg_name (i := 3) scFactor.nd rfl (Or.inl rfl))
          (fun _ _ _ _ _ => pts_one (pt_cmpR op_eq (pe_call Gd hr1 (by rfl) Dd.g Dd.F.kp Dd.b .nil pass0 (pa_cons (pv 0) (pa_cons pe_int pa_nil))) pe_int (nomark _))) (fun _ _ _ _ _ => pv 3))))
      (pss_one (ps_ret (pe_tup (pa_cons pe_str (pa_cons (pe_ifExp (pt_cmpR op_ne (pv 2) pe_str (nomark _)) (pv 2) (pe_call Gp hr (by rfl) Dp.g Dp.F.kp Dp.b .nil pass0 (pa_cons (pv 0) (pa_cons (pv 1) pa_nil)))) pa_nil)))))), ?_⟩
    refine ⟨.ref t, rfl, t, c, 3, n, rfl, T, by omega, by decide, by decide, fun H1 r k1 T1 r0 r1 => ?_⟩
    refine ⟨r, 0, rfl, rfl, _, rfl, ite2 (fun e => ?_) (fun e => ?_)⟩
    · refine ⟨.ref t, rfl, .str z, rfl, t, c, n + 1, .str z, rfl, T1, by omega, .inr ⟨z, rfl, by omega, by omega, fun H2 d k2 T2 hd => ?_⟩⟩
      refine ⟨by show 2 ≤ sizeLine; decide, fun p hp => ?_⟩
      have s3 := same_upd (o := .tup [.str "opt", .str ⟨#[d]⟩]) hp
      exact k _ _ (false, one d) ((k1.trans k2).trans (T2.kp s3)) ((T2.same s3).mono (by omega)) ⟨p, rfl, SqT.of upd_same⟩ ⟨by simp [one], by show [d].Sublist _; exact List.singleton_sublist.mpr hd, fun _ => rfl⟩
    · refine ⟨⟨_, rfl⟩, .str z, rfl, z, rfl, fun D hD => ?_⟩
      have D1 := T1.ne1 hD
      have D2 := T1.ne2 hD
      have D0 := k1.gone hD
      have zs : z.cps.size = (tl z).length := (Array.length_toList).symm
      refine lc_it walk_str (fun i H' => ∃ ds : List Nat, ds.Sublist ((tl z).take i) ∧ H' D = some (.lst ((ds.map one).map V.str)) ∧ Kp t H H' ∧ Tape H' t c (n + 1 + i)) ?_ (fun _ _ _ _ => trivial) ?_ ?_
      · exact ⟨[], List.nil_sublist _, upd_same, k1.put D0 D1, T1.upd D1 D2⟩
      · rintro i x G G' hi ⟨ds, sub, gD, kG, TG⟩ ⟨rfl, d, hd, rfl⟩
        have hd' : (tl z)[i]? = some d := by rw [Array.getElem?_toList]; exact hd
        have tk : (tl z).take (i + 1) = (tl z).take i ++ [d] := by rw [List.take_add_one, hd'] <;> rfl
        have dl : ds.length ≤ 3 := Nat.le_trans (Nat.le_trans sub.length_le (List.length_take_le' ..)) l3
        refine ⟨rfl, .ref t, rfl, t, c, 2, n + 1 + i, rfl, TG, by omega, by decide, by decide, fun H4 q k4 T4 q0 q1 => ?_⟩
        have gD4 := k4.at gD (fun _ z => by cases z)
        refine ⟨rfl, _, rfl, ite2 (fun e2 => ?_) (fun e2 => ?_)⟩
        · refine ⟨_, rfl, _, gD4, ?_, ds ++ [d], ?_, ?_, (kG.trans k4).put D0 D1, T4.upd D1 D2⟩
          · rw [List.length_map, List.length_map, sizeLine_eq]
            omega
          · rw [tk]
            exact sub.append (List.Sublist.refl _)
          · rw [upd_same, List.map_append, List.map_append]
            rfl
        · refine ⟨ds, ?_, gD4, kG.trans k4, T4⟩
          rw [tk]
          exact sub.trans (List.sublist_append_left _ _)
      · rintro G ⟨ds, sub, gD, kG, TG⟩
        have sub' : ds.Sublist (tl z) := sub.trans (List.take_sublist _ _)
        have dl : ds.length ≤ 3 := Nat.le_trans sub'.length_le l3
        refine ⟨"", D, ds.map one, rfl, rfl, .inl (SqL.of gD), ?_, ?_⟩
        · rw [sum_ones _ fun y hy => ?_, List.length_map]
          · show ds.length + ds.length * 0 ≤ 16777216
            omega
          · obtain ⟨u, _, e⟩ := List.mem_map.mp hy
            exact ⟨u, e.symm⟩
        have ej : tl (Txt.join "" (ds.map one)) = ds := by rw [tl_cat, flat_ones]
        refine ⟨.str (Txt.join "" (ds.map one)), rfl, rfl, _, rfl, ite2 (fun e2 => ?_) (fun e2 => ?_)⟩
        · refine ⟨_, rfl, by show 2 ≤ sizeLine; decide, fun p hp => ?_⟩
          have s3 := same_upd (o := .tup [.str "star", .str (Txt.join "" (ds.map one))]) hp
          refine k _ _ (true, Txt.join "" (ds.map one)) (kG.trans (TG.kp s3)) ((TG.same s3).mono (by omega)) ⟨p, rfl, SqT.of upd_same⟩ ⟨?_, by rw [ej]; exact sub', fun z => by cases z⟩
          intro z0
          have e3 : Txt.join "" (ds.map one) = ("" : Str) := tl_inj z0
          rw [e3] at e2
          exact absurd e2 (by decide +kernel)
        · refine ⟨.ref t, rfl, .str z, rfl, t, c, n + 1 + z.cps.size, .str z, rfl, TG, by omega, .inr ⟨z, rfl, by omega, by omega, fun H2 d k2 T2 hd => ?_⟩⟩
          refine ⟨by show 2 ≤ sizeLine; decide, fun p hp => ?_⟩
          have s3 := same_upd (o := .tup [.str "star", .str ⟨#[d]⟩]) hp
          exact k _ _ (true, one d) ((kG.trans k2).trans (T2.kp s3)) ((T2.same s3).mono (by omega)) ⟨p, rfl, SqT.of upd_same⟩ ⟨by simp [one], by show [d].Sublist _; exact List.singleton_sublist.mpr hd, fun z => by cases z⟩
theorem scProduct : FnScope ["_law_tape", "_law_alphabet_here", "_law_longest", "_law_k"] ["_law_tape", "_law_alphabet_here", "_law_longest"] (defScope sProduct) := ⟨rfl, rfl, rfl, by decide +kernel, rfl, by decide +kernel, by decide +kernel⟩
theorem ok_product (D : Df K mg "_law_product" sProduct ["_law_tape", "_law_alphabet_here", "_law_longest"]) (Df0 : Df K mg "_law_factor" sFactor ["_law_tape", "_law_alphabet_here"]) (Dd : DfDraw K mg) (Dp : DfPick K mg) (B : Bl mg) (mt : mg "tuple" = none) :
    FnOk P w K mg base CX0 4 D.f D.fd ["_law_tape", "_law_alphabet_here", "_law_longest"] (spProduct K) := by
  have Gd : FnOk P w K mg base CX0 1 Dd.f Dd.fd ["_law_tape", "_law_many"] spDraw := ok_draw Dd B.len
  have Gf : FnOk P w K mg base CX0 3 Df0.f Df0.fd ["_law_tape", "_law_alphabet_here"] (spFactor K) := ok_factor Df0 Dd Dp B
  refine D.F.ok scProduct (fun vs H Q E h => ?_) (fun cdv A outer s H vs Q E hr h => ?_)
  · obtain ⟨t, c, n, z, m, rfl, _⟩ := h
    rfl
  · obtain ⟨t, c, n, z, m, rfl, T, hn, al, m0, m1, k⟩ := h
    have hr1 : Room 1 _ := hr.mono (by decide)
    refine ⟨_, pss_one (ps_ret (pe_callTy call_tuple_of (by rfl) mt (by decide +kernel) (pa_cons (pe_lc (own := [("_law_k", 3)]) (g := gName 3) rfl scProduct.nd
        (pi_range1 rfl B.range (pa_cons (pe_call Gd hr1 (by rfl) Dd.g Dd.F.kp Dd.b .nil pass0 (pa_cons (pv 0) (pa_cons (pe_op op_add (pv 2) pe_int) pa_nil))) pa_nil))
        (blkOk_by (N := ["_law_tape", "_law_alphabet_here", "_law_longest", "_law_k"]) (sc := defScope sProduct) (by decide +kernel)) (fun _ _ _ _ _ => pg_name (i := 3) scProduct.nd rfl (Or.inl rfl)) (fun _ _ _ _ _ => pts_nil)
        (fun _ _ _ _ _ => pe_call Gf hr (by rfl) Df0.g Df0.F.kp Df0.b .nil pass0 (pa_cons (pv 0) (pa_cons (pv 1) pa_nil)))) pa_nil))), ?_⟩
    refine ⟨.ref t, rfl, .int m, rfl, m, 1, rfl, rfl, t, c, m + 1, n, rfl, T, by omega, by omega, by omega, fun H1 r k1 T1 r0 r1 => ?_⟩
    refine ⟨r, rfl, by omega, by omega, fun D hD => ?_⟩
    have D1 := T1.ne1 hD
    have D2 := T1.ne2 hD
    have D0 := k1.gone hD
    refine lc_range (lo := 0) (n := r.toNat) (fun i H' => ∃ (xs : List V) (fs : List Fc), fs.length = i ∧ H' D = some (.lst xs) ∧ IsFs K H' xs fs ∧ (∀ f ∈ fs, FOk z f) ∧ Kp t H H' ∧ Tape H' t c (n + 1 + 10 * i)) ?_ ?_ ?_
    · exact ⟨[], [], rfl, upd_same, .nil, fun f hf => (nomatch hf), k1.put D0 D1, T1.upd D1 D2⟩
    · rintro i G hi ⟨xs, fs, fl, gD, iF, ok, kG, TG⟩
      refine ⟨rfl, yes ?_⟩
      refine ⟨.ref t, rfl, .str z, rfl, t, c, n + 1 + 10 * i, z, rfl, TG, by omega, al, fun H4 v f k4 T4 isf fok => ?_⟩
      have gD4 := k4.at gD (fun _ z => by cases z)
      have iF4 := iF.mono (kp_tup k4)
      refine ⟨xs, gD4, ?_, xs ++ [v], fs ++ [f], by rw [List.length_append, fl]; rfl, upd_same, (iF4.snoc isf).mono (upd_tup gD4), fun g hg => ?_, (kG.trans k4).put D0 D1, (T4.upd D1 D2).mono (by omega)⟩
      · rw [iF.len, fl, sizeLine_eq]
        omega
      · rcases List.mem_append.mp hg with q | q
        · exact ok g q
        · rw [List.mem_singleton.mp q]
          exact fok
    · rintro G ⟨xs, fs, fl, gD, iF, ok, kG, TG⟩
      refine ⟨D, xs, rfl, .inl ⟨SqL.of gD, fun p hp => ?_⟩⟩
      have s3 := same_upd (o := .tup xs) hp
      exact k _ _ fs (kG.trans (TG.kp s3)) ((TG.same s3).mono (by omega)) ⟨p, xs, rfl, SqT.of upd_same, iF.mono (same_tup s3)⟩ ok (by omega)
end
end DW
namespace DW
open PySem PySem.Spec PyProof.Rows L2 TL
set_option autoImplicit false
/-! ### unfoldings -/
theorem upd_upd2 {H : Hp} {d : Addr} {o u : HO} : upd (upd H d o) d u = upd H d u := by
  funext b
  by_cases e : b = d
  · rw [e, upd_same, upd_same]
  · rw [upd_ne e, upd_ne e, upd_ne e]
def piece (m : Nat) (f : Fc) : List Nat := if f.1 = true then (List.replicate m (tl f.2)).flatten else tl f.2
def unf (fs : List Fc) (m : Nat) : List Nat := (fs.map (piece m)).flatten
theorem piece_len {m : Nat} {f : Fc} (hm : m ≤ 1000) (h : (tl f.2).length ≤ 3) : (piece m f).length ≤ 3000 := by
  unfold piece
  by_cases e : f.1 = true
  · rw [if_pos e, List.length_flatten, List.map_replicate, List.sum_replicate_nat]
    have := Nat.mul_le_mul hm h
    omega
  · rw [if_neg e]
    omega
theorem unf_len {m : Nat} (hm : m ≤ 1000) : ∀ fs : List Fc, (∀ f ∈ fs, (tl f.2).length ≤ 3) → (unf fs m).length ≤ 3000 * fs.length
  | [], _ => Nat.le_refl _
  | f :: r, h => by
    have ih := unf_len hm r fun g hg => h g (List.mem_cons_of_mem _ hg)
    have h1 := piece_len hm (h f List.mem_cons_self)
    have e : (unf (f :: r) m).length = (piece m f).length + (unf r m).length := by
      unfold unf
      rw [List.map_cons, List.flatten_cons, List.length_append]
    rw [List.length_cons, e]
    omega
theorem sum_lens (ys : List Str) : (ys.map (·.length)).sum = ((ys.map tl).flatten).length := by
  rw [List.length_flatten, List.map_map]
  exact congrArg List.sum (List.map_congr_left fun y _ => (Array.length_toList).symm)
theorem unf_snoc (fs : List Fc) (m : Nat) {i : Nat} {f : Fc} (h : fs[i]? = some f) : unf (fs.take (i + 1)) m = unf (fs.take i) m ++ piece m f := by
  unfold unf
  rw [List.take_add_one, h]
  simp
theorem kd_opt (b : Bool) : decide (V.str (kd b) = V.str "opt") = !b := by
  cases b
  · exact decide_eq_true rfl
  · exact decide_eq_false (by unfold kd; decide +kernel)
def spUnfold (K : PySem.W.Frag) : Sp := fun vs H Q _ => ∃ (v : V) (fs : List Fc) (m : Int), vs = [v, .int m] ∧ IsP K H v fs ∧ (∀ f ∈ fs, (tl f.2).length ≤ 3) ∧ fs.length ≤ 100 ∧ 0 ≤ m ∧ m ≤ 1000 ∧
  ∀ H' r, Same H H' → tl r = unf fs m.toNat → Q (.str r) H'
end DW
namespace DW
open PySem PySem.Spec PyProof.Rows L2 TL
set_option autoImplicit false
theorem tl_app (x y : Str) : tl (x ++ y) = tl x ++ tl y := Array.toList_append
def OverW (z : Str) (u : Str) : Prop := ∀ c ∈ tl u, c ∈ tl z
/-! ### the language of a product -/
abbrev ls (f : Fc) : List Nat := tl f.2
inductive Lg : List Fc → List Nat → Prop where
  | nil : Lg [] []
  | skip {f : Fc} {fs : List Fc} {w : List Nat} (h : Lg fs w) : Lg (f :: fs) w
  | opt {f : Fc} {fs : List Fc} {c : Nat} {w : List Nat} (k : f.1 = false) (m : c ∈ ls f) (h : Lg fs w) : Lg (f :: fs) (c :: w)
  | star {f : Fc} {fs : List Fc} {c : Nat} {w : List Nat} (k : f.1 = true) (m : c ∈ ls f) (h : Lg (f :: fs) w) : Lg (f :: fs) (c :: w)
theorem Lg.empty : ∀ fs : List Fc, Lg fs []
  | [] => .nil
  | _ :: fs => .skip (Lg.empty fs)
theorem Lg.tail {fs : List Fc} {c : Nat} {w : List Nat} (h : Lg fs (c :: w)) : Lg fs w := by
  generalize e : c :: w = u at h
  induction h with
  | nil => cases e
  | skip h ih => exact .skip (ih e)
  | opt k m h ih =>
    cases e
    exact .skip h
  | star k m h ih =>
    cases e
    exact h
theorem Lg.drop {fs : List Fc} : ∀ {u v : List Nat}, Lg fs (u ++ v) → Lg fs v
  | [], _, h => h
  | _ :: _, _, h => Lg.drop (Lg.tail h)
theorem Lg.init {fs : List Fc} {u v : List Nat} (h : Lg fs (u ++ v)) : Lg fs u := by
  generalize e : u ++ v = x at h
  induction h generalizing u with
  | nil =>
    obtain ⟨rfl, _⟩ := List.append_eq_nil_iff.mp e
    exact .nil
  | skip h ih => exact .skip (ih e)
  | opt k m h ih =>
    cases u with
    | nil => exact Lg.empty _
    | cons d u =>
      obtain ⟨rfl, e2⟩ := List.cons.inj e
      exact .opt k m (ih e2)
  | star k m h ih =>
    cases u with
    | nil => exact Lg.empty _
    | cons d u =>
      obtain ⟨rfl, e2⟩ := List.cons.inj e
      exact .star k m (ih e2)
theorem Lg.has {fs : List Fc} {c : Nat} {w : List Nat} (h : Lg fs (c :: w)) : ∃ g ∈ fs, c ∈ ls g := by
  generalize e : c :: w = u at h
  induction h with
  | nil => cases e
  | skip h ih =>
    obtain ⟨g, hg, hc⟩ := ih e
    exact ⟨g, List.mem_cons_of_mem _ hg, hc⟩
  | opt k m h ih =>
    cases e
    exact ⟨_, List.mem_cons_self, m⟩
  | star k m h ih =>
    cases e
    exact ⟨_, List.mem_cons_self, m⟩
theorem Lg.app {fs gs : List Fc} {u v : List Nat} (h1 : Lg fs u) (h2 : Lg gs v) : Lg (fs ++ gs) (u ++ v) := by
  induction h1 with
  | nil => exact h2
  | skip h ih => exact .skip ih
  | opt k m h ih => exact .opt k m ih
  | star k m h ih => exact .star k m ih
theorem Lg.split {gs : List Fc} : ∀ {fs : List Fc} {w : List Nat}, Lg (fs ++ gs) w → ∃ u v, w = u ++ v ∧ Lg fs u ∧ Lg gs v := by
  intro fs w h
  generalize e : fs ++ gs = hs at h
  induction h generalizing fs with
  | nil =>
    obtain ⟨rfl, rfl⟩ := List.append_eq_nil_iff.mp e
    exact ⟨[], [], rfl, .nil, .nil⟩
  | @skip f hs w h ih =>
    cases fs with
    | nil =>
      have e' : gs = f :: hs := e
      exact ⟨[], w, rfl, .nil, by rw [e']; exact .skip h⟩
    | cons f' fs =>
      obtain ⟨rfl, e2⟩ := List.cons.inj e
      obtain ⟨u, v, rfl, h1, h2⟩ := ih e2
      exact ⟨u, v, rfl, .skip h1, h2⟩
  | @opt f hs c w k m h ih =>
    cases fs with
    | nil =>
      have e' : gs = f :: hs := e
      exact ⟨[], c :: w, rfl, .nil, by rw [e']; exact .opt k m h⟩
    | cons f' fs =>
      obtain ⟨rfl, e2⟩ := List.cons.inj e
      obtain ⟨u, v, rfl, h1, h2⟩ := ih e2
      exact ⟨c :: u, v, rfl, .opt k m h1, h2⟩
  | @star f hs c w k m h ih =>
    cases fs with
    | nil =>
      have e' : gs = f :: hs := e
      exact ⟨[], c :: w, rfl, .nil, by rw [e']; exact .star k m h⟩
    | cons f' fs =>
      obtain ⟨rfl, e2⟩ := List.cons.inj e
      obtain ⟨u, v, rfl, h1, h2⟩ := ih (fs := f' :: fs) e
      exact ⟨c :: u, v, rfl, .star k m h1, h2⟩
theorem Lg.one_star {f : Fc} (k : f.1 = true) : ∀ {w : List Nat}, Lg [f] w ↔ ∀ c ∈ w, c ∈ ls f := by
  intro w
  constructor
  · intro h
    generalize e : [f] = hs at h
    induction h with
    | nil => intro c hc; cases hc
    | skip h ih =>
      obtain ⟨rfl, rfl⟩ := List.cons.inj e
      cases h
      intro c hc
      cases hc
    | opt k' m h ih =>
      obtain ⟨rfl, rfl⟩ := List.cons.inj e
      rw [k] at k'
      cases k'
    | star k' m h ih =>
      intro c hc
      rcases List.mem_cons.mp hc with q | q
      · obtain ⟨rfl, rfl⟩ := List.cons.inj e
        rw [q]
        exact m
      · exact ih e c q
  · intro h
    induction w with
    | nil => exact Lg.empty _
    | cons c w ih => exact .star k (h c List.mem_cons_self) (ih fun d hd => h d (List.mem_cons_of_mem _ hd))
theorem Lg.one_opt {f : Fc} (k : f.1 = false) {w : List Nat} (h : Lg [f] w) : w = [] ∨ ∃ c ∈ ls f, w = [c] := by
  cases h with
  | skip h =>
    cases h
    exact .inl rfl
  | opt k' m h =>
    cases h
    exact .inr ⟨_, m, rfl⟩
  | star k' m h =>
    rw [k] at k'
    cases k'
/-- a word behind a factor more -/
theorem Lg.snoc {fs : List Fc} {f : Fc} {u : List Nat} : Lg (fs ++ [f]) u ↔ Lg fs u ∨ ∃ u' c, u = u' ++ [c] ∧ c ∈ ls f ∧ (if f.1 = true then Lg (fs ++ [f]) u' else Lg fs u') := by
  constructor
  · intro h
    obtain ⟨a, b, rfl, h1, h2⟩ := h.split
    by_cases k : f.1 = true
    · have q := (Lg.one_star k).mp h2
      rcases List.eq_nil_or_concat b with e | ⟨b', c, e⟩
      · left
        rw [e, List.append_nil]
        exact h1
      · right
        rw [List.concat_eq_append] at e
        refine ⟨a ++ b', c, by rw [e, List.append_assoc], q c (by rw [e]; simp), ?_⟩
        rw [if_pos k]
        exact Lg.app h1 ((Lg.one_star k).mpr fun d hd => q d (by rw [e]; simp [hd]))
    · rcases Lg.one_opt (by simpa using k) h2 with e | ⟨c, hc, e⟩
      · left
        rw [e, List.append_nil]
        exact h1
      · right
        exact ⟨a, c, by rw [e], hc, by rw [if_neg k]; exact h1⟩
  · rintro (h | ⟨u', c, rfl, hc, h⟩)
    · have := Lg.app h (Lg.empty [f])
      rw [List.append_nil] at this
      exact this
    · by_cases k : f.1 = true
      · rw [if_pos k] at h
        obtain ⟨a, b, rfl, h1, h2⟩ := h.split
        rw [List.append_assoc]
        refine Lg.app h1 ((Lg.one_star k).mpr fun d hd => ?_)
        rcases List.mem_append.mp hd with q | q
        · exact (Lg.one_star k).mp h2 d q
        · rw [List.mem_singleton.mp q]
          exact hc
      · rw [if_neg k] at h
        exact Lg.app h (.opt (by simpa using k) hc .nil)
theorem Lg.unf (m : Nat) : ∀ fs : List Fc, (∀ f ∈ fs, f.1 = false → (ls f).length = 1) → Lg fs (DW.unf fs m)
  | [], _ => .nil
  | f :: fs, h => by
    have ih := Lg.unf m fs fun g hg => h g (List.mem_cons_of_mem _ hg)
    have e : DW.unf (f :: fs) m = piece m f ++ DW.unf fs m := rfl
    rw [e]
    refine Lg.app (fs := [f]) ?_ ih
    unfold piece
    by_cases k : f.1 = true
    · rw [if_pos k]
      refine (Lg.one_star k).mpr fun c hc => ?_
      obtain ⟨l, hl, hc⟩ := List.mem_flatten.mp hc
      rw [List.eq_of_mem_replicate hl] at hc
      exact hc
    · rw [if_neg k]
      have k' : f.1 = false := by simpa using k
      have l1 := h f List.mem_cons_self k'
      obtain ⟨c, e⟩ := List.length_eq_one_iff.mp l1
      have e' : tl f.2 = [c] := e
      rw [e']
      exact .opt k' (by show c ∈ tl f.2; rw [e']; simp) .nil
/-! ### inclusion, factor by factor -/
def sw (g f : Fc) : Bool := g.1 && (ls f).all fun c => decide (c ∈ ls g)
def cov (g f : Fc) : Bool := decide (g = f) || sw g f
def inc : List Fc → List Fc → Bool
  | _, [] => true
  | [], _ :: _ => false
  | g :: q, f :: p => if cov g f = true then (if g.1 = true then inc (g :: q) p else inc q p) else inc q (f :: p)
termination_by q p => q.length + p.length
def W1 (fs : List Fc) : Prop := ∀ f ∈ fs, ls f ≠ [] ∧ (f.1 = false → (ls f).length = 1)
theorem cov_sub {g f : Fc} (h : cov g f = true) (k : g.1 = true) : ∀ c ∈ ls f, c ∈ ls g := by
  intro c hc
  unfold cov at h
  rw [Bool.or_eq_true] at h
  rcases h with e | e
  · rw [of_decide_eq_true e]
    exact hc
  · unfold sw at e
    rw [Bool.and_eq_true, List.all_eq_true] at e
    exact of_decide_eq_true (e.2 c hc)
theorem cov_opt {g f : Fc} (h : cov g f = true) (k : g.1 = false) : g = f := by
  unfold cov at h
  rw [Bool.or_eq_true] at h
  rcases h with e | e
  · exact of_decide_eq_true e
  · unfold sw at e
    rw [k] at e
    cases e
theorem inc_sound : ∀ (q p : List Fc), inc q p = true → ∀ w, Lg p w → Lg q w
  | q, [], _, w, h => by
    cases h
    exact Lg.empty q
  | [], f :: p, h, w, _ => by
    unfold inc at h
    cases h
  | g :: q, f :: p, h, w, hw => by
    unfold inc at h
    by_cases c : cov g f = true
    · rw [if_pos c] at h
      by_cases k : g.1 = true
      · rw [if_pos k] at h
        have ih := inc_sound (g :: q) p h
        have sub := cov_sub c k
        generalize e : f :: p = fp at hw
        induction hw with
        | nil => cases e
        | skip h1 _ =>
          cases e
          exact ih _ h1
        | opt _ m h1 _ =>
          cases e
          exact .star k (sub _ m) (ih _ h1)
        | star _ m h1 ih1 =>
          cases e
          exact .star k (sub _ m) (ih1 rfl)
      · rw [if_neg k] at h
        have k' : g.1 = false := by simpa using k
        have ih := inc_sound q p h
        have e := cov_opt c k'
        subst e
        cases hw with
        | skip h1 => exact .skip (ih _ h1)
        | opt k2 m h1 => exact .opt k2 m (ih _ h1)
        | star k2 m h1 =>
          rw [k'] at k2
          cases k2
    · rw [if_neg c] at h
      exact .skip (inc_sound q (f :: p) h w hw)
termination_by q p => q.length + p.length
/-! ### a word that repeats letters in turn -/
def Per (L : List Nat) (o : Nat) (v : List Nat) : Prop := ∀ k : Nat, k < v.length → v[k]? = L[(o + k) % L.length]?
theorem Per.tail {L u v : List Nat} {o : Nat} (h : Per L o (u ++ v)) : Per L (o + u.length) v := fun k hk => by
  have q := h (u.length + k) (by rw [List.length_append]; omega)
  rw [List.getElem?_append_right (by omega), show u.length + k - u.length = k by omega] at q
  rw [q, Nat.add_assoc]
theorem Per.head {L u v : List Nat} {o : Nat} (h : Per L o (u ++ v)) : Per L o u := fun k hk => by
  have q := h k (by rw [List.length_append]; omega)
  rw [List.getElem?_append_left hk] at q
  exact q
theorem Per.all {L v : List Nat} {o : Nat} (h0 : L ≠ []) (h : Per L o v) (hl : L.length ≤ v.length) : ∀ c ∈ L, c ∈ v := by
  intro c hc
  obtain ⟨i, hi, e⟩ := List.mem_iff_getElem.mp hc
  have lp : 0 < L.length := List.length_pos_iff.mpr h0
  have om := Nat.mod_lt o lp
  -- k with (o + k) % |L| = i
  have : ∃ k, k < L.length ∧ (o + k) % L.length = i := by
    by_cases c : o % L.length ≤ i
    · refine ⟨i - o % L.length, by omega, ?_⟩
      rw [Nat.add_mod, Nat.mod_eq_of_lt (show i - o % L.length < L.length by omega)]
      rw [show o % L.length + (i - o % L.length) = i by omega, Nat.mod_eq_of_lt hi]
    · refine ⟨i + L.length - o % L.length, by omega, ?_⟩
      rw [Nat.add_mod, Nat.mod_eq_of_lt (show i + L.length - o % L.length < L.length by omega)]
      rw [show o % L.length + (i + L.length - o % L.length) = i + L.length by omega, Nat.add_mod_right, Nat.mod_eq_of_lt hi]
  obtain ⟨k, hk, ek⟩ := this
  have q := h k (by omega)
  rw [ek, List.getElem?_eq_getElem hi, e] at q
  exact List.mem_of_getElem? q
theorem Per.bound {f : Fc} (h0 : ls f ≠ []) : ∀ (q : List Fc), (∀ g ∈ q, cov g f = false) → ∀ (v : List Nat) (o : Nat), Per (ls f) o v → Lg q v → v.length ≤ q.length * (ls f).length
  | [], _, v, o, _, h => by
    cases h
    exact Nat.zero_le _
  | g :: q, hq, v, o, hp, h => by
    obtain ⟨a, b, rfl, h1, h2⟩ := Lg.split (fs := [g]) h
    have ih := Per.bound h0 q (fun g hg => hq g (List.mem_cons_of_mem _ hg)) b _ hp.tail h2
    have al : a.length ≤ (ls f).length := by
      have lp : 0 < (ls f).length := List.length_pos_iff.mpr h0
      by_cases k : g.1 = true
      · have sub := (Lg.one_star k).mp h1
        by_cases c : (ls f).length ≤ a.length
        · have al := hp.head.all h0 c
          have cv : cov g f = true := by
            unfold cov sw
            rw [Bool.or_eq_true]
            right
            rw [k, Bool.true_and, List.all_eq_true]
            exact fun c hc => decide_eq_true (sub c (al c hc))
          rw [hq g List.mem_cons_self] at cv
          cases cv
        · omega
      · rcases Lg.one_opt (by simpa using k) h1 with e | ⟨c, _, e⟩
        · rw [e]
          exact Nat.zero_le _
        · rw [e]
          exact lp
    rw [List.length_append, List.length_cons, Nat.succ_mul]
    omega
theorem per_rep (L : List Nat) (m : Nat) : Per L 0 (List.replicate m L).flatten := by
  induction m with
  | zero =>
    intro k hk
    exact absurd hk (Nat.not_lt_zero _)
  | succ m ih =>
    intro k hk
    rw [List.replicate_succ, List.flatten_cons]
    by_cases c : k < L.length
    · rw [List.getElem?_append_left c, Nat.zero_add, Nat.mod_eq_of_lt c]
    · rw [List.getElem?_append_right (by omega)]
      have q := ih (k - L.length) (by
        rw [List.replicate_succ, List.flatten_cons, List.length_append] at hk
        omega)
      rw [q, Nat.zero_add, Nat.zero_add]
      congr 1
      rw [← Nat.mod_eq_sub_mod (by omega)]
theorem rep_len (L : List Nat) (m : Nat) : (List.replicate m L).flatten.length = m * L.length := by
  rw [List.length_flatten, List.map_replicate, List.sum_replicate_nat]
/-- skipping factors that do not cover -/
theorem inc_skip {f : Fc} {p : List Fc} : ∀ {a b : List Fc}, (∀ g ∈ a, cov g f = false) → inc (a ++ b) (f :: p) = inc b (f :: p)
  | [], _, _ => rfl
  | g :: a, b, h => by
    rw [List.cons_append]
    rw [show inc (g :: (a ++ b)) (f :: p) = inc (a ++ b) (f :: p) by
      conv => lhs; unfold inc
      rw [if_neg (by rw [h g List.mem_cons_self]; simp)]]
    exact inc_skip fun g hg => h g (List.mem_cons_of_mem _ hg)
theorem first_cov (f : Fc) : ∀ q : List Fc, (∀ g ∈ q, cov g f = false) ∨ ∃ a g b, q = a ++ g :: b ∧ (∀ h ∈ a, cov h f = false) ∧ cov g f = true
  | [] => .inl fun g hg => (nomatch hg)
  | g :: q => by
    by_cases c : cov g f = true
    · exact .inr ⟨[], g, q, rfl, fun h hh => (nomatch hh), c⟩
    · have c' : cov g f = false := by simpa using c
      rcases first_cov f q with h | ⟨a, g', b, rfl, h1, h2⟩
      · left
        intro h' hh
        rcases List.mem_cons.mp hh with e | e
        · rw [e]; exact c'
        · exact h h' e
      · right
        refine ⟨g :: a, g', b, rfl, fun h hh => ?_, h2⟩
        rcases List.mem_cons.mp hh with e | e
        · rw [e]; exact c'
        · exact h1 h e
theorem inc_complete (m : Nat) : ∀ (p q : List Fc), W1 p → W1 q → q.length < m → Lg q (DW.unf p m) → inc q p = true
  | [], q, _, _, _, _ => by
    cases q <;> (unfold inc; rfl)
  | f :: p, q, wp, wq, hm, h => by
    have wp' : W1 p := fun g hg => wp g (List.mem_cons_of_mem _ hg)
    obtain ⟨n0, n1⟩ := wp f List.mem_cons_self
    have e : DW.unf (f :: p) m = piece m f ++ DW.unf p m := rfl
    rw [e] at h
    have lp : 0 < (ls f).length := List.length_pos_iff.mpr n0
    -- the factors that do not cover take at most |q| copies
    have key : ∀ a b, q = a ++ b → (∀ g ∈ a, cov g f = false) → ∃ v, v ≠ [] ∧ (∀ c ∈ v, c ∈ ls f) ∧ Lg b (v ++ DW.unf p m) := by
      intro a b eq ha
      rw [eq] at h
      obtain ⟨u, v, euv, h1, h2⟩ := h.split
      have la : a.length ≤ q.length := by rw [eq, List.length_append]; omega
      by_cases k : f.1 = true
      · have ep : piece m f = (List.replicate m (ls f)).flatten := by unfold piece; rw [if_pos k]
        rw [ep] at euv
        have pr := per_rep (ls f) m
        have lu : u.length < (List.replicate m (ls f)).flatten.length := by
          rw [rep_len]
          apply Decidable.byContradiction
          intro hc
          -- then all copies lie within u
          have hu : ∃ t, u = (List.replicate m (ls f)).flatten ++ t := by
            have q1 : (List.replicate m (ls f)).flatten <+: u ++ v := ⟨_, euv⟩
            have q2 : u <+: u ++ v := List.prefix_append _ _
            have q3 := List.prefix_of_prefix_length_le q1 q2 (by rw [rep_len]; omega)
            obtain ⟨t, et⟩ := q3
            exact ⟨t, et.symm⟩
          obtain ⟨t, rfl⟩ := hu
          have h3 : Lg a (List.replicate m (ls f)).flatten := by
            exact Lg.init h1
          have bd := Per.bound n0 a ha _ 0 pr h3
          rw [rep_len] at bd
          have : a.length * (ls f).length < m * (ls f).length := Nat.mul_lt_mul_of_pos_right (by omega) lp
          omega
        obtain ⟨t, et⟩ : ∃ t, (List.replicate m (ls f)).flatten = u ++ t := by
          have q1 : (List.replicate m (ls f)).flatten <+: u ++ v := ⟨_, euv⟩
          have q2 : u <+: u ++ v := List.prefix_append _ _
          obtain ⟨t, et⟩ := List.prefix_of_prefix_length_le q2 q1 (by omega)
          exact ⟨t, et.symm⟩
        have ev : v = t ++ DW.unf p m := by
          rw [et, List.append_assoc] at euv
          exact (List.append_cancel_left euv).symm
        refine ⟨t, fun z => ?_, fun c hc => ?_, by rw [← ev]; exact h2⟩
        · rw [z, List.append_nil] at et
          rw [et] at lu
          omega
        · have : c ∈ (List.replicate m (ls f)).flatten := by rw [et]; exact List.mem_append_right _ hc
          obtain ⟨l, hl, hc⟩ := List.mem_flatten.mp this
          rw [List.eq_of_mem_replicate hl] at hc
          exact hc
      · have k' : f.1 = false := by simpa using k
        obtain ⟨c, ec⟩ := List.length_eq_one_iff.mp (n1 k')
        have ec' : tl f.2 = [c] := ec
        have ep : piece m f = [c] := by unfold piece; rw [if_neg k, ec']
        rw [ep] at euv
        cases u with
        | nil => exact ⟨[c], by simp, fun d hd => by rw [List.mem_singleton.mp hd]; show c ∈ tl f.2; rw [ec']; simp, by rw [euv]; exact h2⟩
        | cons d u =>
          -- a takes the letter: one of its factors covers f
          exfalso
          have ed : c = d := (List.cons.inj euv).1
          subst ed
          obtain ⟨g, hg, hc⟩ := Lg.has h1
          have hq : g ∈ q := by rw [eq]; exact List.mem_append_left _ hg
          have cv : cov g f = true := by
            unfold cov
            rw [Bool.or_eq_true]
            by_cases kg : g.1 = true
            · right
              unfold sw
              rw [kg, Bool.true_and, List.all_eq_true]
              intro d hd
              have : d ∈ [c] := by rw [← ec']; exact hd
              rw [List.mem_singleton.mp this]
              exact decide_eq_true hc
            · left
              have kg' : g.1 = false := by simpa using kg
              obtain ⟨d, ed⟩ := List.length_eq_one_iff.mp ((wq g hq).2 kg')
              have hc' : c ∈ ls g := hc
              rw [ed] at hc'
              have e2 : tl g.2 = tl f.2 := by
                rw [ec']
                show ls g = [c]
                rw [ed, List.mem_singleton.mp hc']
              obtain ⟨g1, g2⟩ := g
              obtain ⟨f1, f2⟩ := f
              have e3 : g2 = f2 := tl_inj e2
              have e4 : g1 = f1 := kg'.trans k'.symm
              exact decide_eq_true (by rw [e3, e4])
          rw [ha g hg] at cv
          cases cv
    rcases first_cov f q with hn | ⟨a, g, b, eq, ha, hg⟩
    · obtain ⟨v, v0, _, hv⟩ := key q [] (by simp) hn
      cases v with
      | nil => exact absurd rfl v0
      | cons c v => cases hv
    · obtain ⟨v, v0, vs, hv⟩ := key a (g :: b) eq ha
      have ei : inc q (f :: p) = inc (g :: b) (f :: p) := by rw [eq]; exact inc_skip ha
      have lb : (g :: b).length ≤ q.length := by rw [eq, List.length_append]; omega
      rw [ei]
      have wb : W1 (g :: b) := fun x hx => wq x (by rw [eq]; exact List.mem_append_right _ hx)
      by_cases k : g.1 = true
      · have ih := inc_complete m p (g :: b) wp' wb (by omega) hv.drop
        unfold inc
        rw [if_pos hg, if_pos k]
        exact ih
      · have k' : g.1 = false := by simpa using k
        have eg := cov_opt hg k'
        have hb : Lg b (DW.unf p m) := by
          cases v with
          | nil => exact absurd rfl v0
          | cons c v =>
            cases hv with
            | skip h => exact Lg.drop (u := c :: v) h
            | opt _ _ h => exact Lg.drop h
            | star k2 _ _ =>
              rw [k'] at k2
              cases k2
        have ih := inc_complete m p b wp' (fun x hx => wb x (List.mem_cons_of_mem _ hx)) (by rw [List.length_cons] at lb; omega) hb
        unfold inc
        rw [if_pos hg, if_neg k]
        exact ih
end DW
namespace DW
open PySem PySem.Spec PyProof.Rows L2 TL
set_option autoImplicit false
theorem kd_star (b : Bool) : decide (V.str (kd b) = V.str "star") = b := by
  cases b
  · exact decide_eq_false (by unfold kd; decide +kernel)
  · exact decide_eq_true rfl
theorem kd_inj {a b : Bool} (h : kd a = kd b) : a = b := by
  cases a <;> cases b <;> first | rfl | (exfalso; revert h; unfold kd; decide +kernel)
def fD (f : Fc) : PyData := .tuple [.str (kd f.1), .str f.2]
theorem IsF.dp {K : PySem.W.Frag} {H : Hp} {v : V} {f : Fc} (h : IsF K H v f) : Dp K H v (fD f) := by
  obtain ⟨a, rfl, q⟩ := h
  exact .tup q (.cons (.str _) (.cons (.str _) .nil))
def Low (f : Fc) : Prop := (∀ c ∈ ls f, c < 128) ∧ (ls f).length ≤ 1000
theorem strOk_low {x : Str} (h : ∀ c ∈ tl x, c < 128) (hl : (tl x).length ≤ 1000) : PyData.strOk x = true := by
  unfold PyData.strOk
  rw [← Array.all_toList, List.all_eq_true]
  exact fun c hc => decide_eq_true (by have := h c hc; omega)
theorem kd_ok (b : Bool) : PyData.strOk (kd b) = true := by
  cases b <;> (unfold kd; decide +kernel)
theorem fD_shaped {f : Fc} (h : Low f) : SeqAt.shaped (fD f) = true := by
  unfold SeqAt.shaped fD
  rw [Bool.and_eq_true]
  refine ⟨?_, decide_eq_true (by simp [PyData.depth, PyData.depthAll])⟩
  simp only [PyData.canLay0, PyData.canLayAll0, kd_ok, strOk_low h.1 h.2, Bool.and_self]
theorem fD_eqv (f g : Fc) : PyData.eqv (fD f) (fD g) = decide (f = g) := by
  unfold fD
  simp only [PyData.eqv, PyData.eqvAll, Bool.and_true]
  rw [Bool.eq_iff_iff, Bool.and_eq_true, decide_eq_true_eq, beq_iff_eq, beq_iff_eq]
  constructor
  · rintro ⟨e1, e2⟩
    obtain ⟨a, b⟩ := f
    obtain ⟨c, d⟩ := g
    have := kd_inj e1
    simp only at this e2
    rw [this, e2]
  · rintro rfl
    exact ⟨rfl, rfl⟩
def spSw (K : PySem.W.Frag) : Sp := fun vs H Q _ => ∃ (x y : V) (g f : Fc), vs = [x, y] ∧ IsF K H x g ∧ IsF K H y f ∧ (ls f).length ≤ 1000 ∧ ∀ H', Same H H' → Q (.bl (sw g f)) H'
def spCov (K : PySem.W.Frag) : Sp := fun vs H Q _ => ∃ (x y : V) (g f : Fc), vs = [x, y] ∧ IsF K H x g ∧ IsF K H y f ∧ Low g ∧ Low f ∧ ∀ H', Same H H' → Q (.bl (cov g f)) H'
def spIncl (K : PySem.W.Frag) : Sp := fun vs H Q _ => ∃ (x y : V) (p q : List Fc), vs = [x, y] ∧ IsP K H x p ∧ IsP K H y q ∧ (∀ f ∈ p, Low f) ∧ (∀ g ∈ q, Low g) ∧ ∀ H', Same H H' → Q (.bl (inc q p)) H'
def rst : List Fc → List Fc → Option (List Fc)
  | q, [] => some q
  | [], _ :: _ => none
  | g :: q, f :: p => if cov g f = true then (if g.1 = true then rst (g :: q) p else rst q p) else rst q (f :: p)
termination_by q p => (q.length + p.length)
theorem rst_none (f : Fc) (p : List Fc) : rst [] (f :: p) = none := by unfold rst; rfl
theorem rst_cons (g f : Fc) (q p : List Fc) : rst (g :: q) (f :: p) = if cov g f = true then (if g.1 = true then rst (g :: q) p else rst q p) else rst q (f :: p) := by conv => lhs; unfold rst
theorem rst_nil (q : List Fc) : rst q [] = some q := by cases q <;> (unfold rst; rfl)
theorem inc_none (f : Fc) (p : List Fc) : inc [] (f :: p) = false := by unfold inc; rfl
theorem inc_cons (g f : Fc) (q p : List Fc) : inc (g :: q) (f :: p) = if cov g f = true then (if g.1 = true then inc (g :: q) p else inc q p) else inc q (f :: p) := by conv => lhs; unfold inc
theorem inc_nil (q : List Fc) : inc q [] = true := by cases q <;> (unfold inc; rfl)
theorem rst_inc : ∀ (q p : List Fc), (rst q p).isSome = inc q p
  | q, [] => by rw [rst_nil, inc_nil]; rfl
  | [], f :: p => by rw [rst_none, inc_none]; rfl
  | g :: q, f :: p => by
    rw [rst_cons, inc_cons]
    by_cases c : cov g f = true
    · rw [if_pos c, if_pos c]
      by_cases s : g.1 = true
      · rw [if_pos s, if_pos s]
        exact rst_inc (g :: q) p
      · rw [if_neg s, if_neg s]
        exact rst_inc q p
    · rw [if_neg c, if_neg c]
      exact rst_inc q (f :: p)
termination_by q p => (q.length + p.length)
/-- the place that is told: how many factors are left behind -/
def plV (n : Nat) : Option (List Fc) → V
  | none => .non
  | some r => .int ((n - r.length : Nat) : Int)
def spBehind (K : PySem.W.Frag) : Sp := fun vs H Q _ => ∃ (x : V) (q : List Fc) (i : Nat) (g : Fc), vs = [x, .int (i : Int)] ∧ IsP K H x q ∧ q[i]? = some g ∧ ∀ H', Same H H' → Q (.int ((if g.1 = true then i else i + 1 : Nat) : Int)) H'
def spPlc (K : PySem.W.Frag) : Sp := fun vs H Q _ => ∃ (x y : V) (p q : List Fc) (s : Nat), vs = [x, y, .int (s : Int)] ∧ IsP K H x p ∧ IsP K H y q ∧ s ≤ q.length ∧ (∀ f ∈ p, Low f) ∧ (∀ g ∈ q, Low g) ∧ ∀ H', Same H H' → Q (plV q.length (rst (q.drop s) p)) H'
section
variable {P : Program} {w : World} {K : PySem.W.Frag} {mg : Str → Option Value} {base : Heap}
theorem scSw : FnScope ["factor", "other", "letter"] ["factor", "other"] (defScope sSwallows) := ⟨rfl, rfl, rfl, by decide +kernel, rfl, by decide +kernel, by decide +kernel⟩
theorem ok_sw (D : Df K mg "swallows" sSwallows ["factor", "other"]) (ma : mg "all" = none) : FnOk P w K mg base CX0 1 D.f D.fd ["factor", "other"] (spSw K) := by
  refine D.F.ok scSw (fun vs H Q E h => ?_) (fun cdv A outer s H vs Q E hr h => ?_)
  · obtain ⟨x, y, g, f, rfl, _⟩ := h
    rfl
  · obtain ⟨x, y, g, f, rfl, ⟨a, rfl, ha⟩, ⟨b, rfl, hb⟩, fl, k⟩ := h
    refine ⟨_, pss_one (ps_ret (pe_and (pe_cmpR op_eq (pe_ix ix_tup (pv 0) pe_int (fun _ _ => rfl)) pe_str (nomark _)) (pe_one (pe_callB (cr_all rfl) (by rfl) ma (by decide +kernel) (pa_cons
      (pe_lc (own := [("letter", 2)]) (g := gName 2) rfl scSw.nd (pi_str (pe_ix ix_tup (pv 1) pe_int (fun _ _ => rfl))) (blkOk_by (N := ["factor", "other", "letter"]) (sc := defScope sSwallows) (by decide +kernel)) (fun _ _ _ _ _ => pg_name (i := 2) scSw.nd rfl (Or.inl rfl)) (fun _ _ _ _ _ => pts_nil)
        (fun _ _ _ _ _ => pe_cmpR op_in_sign (pv 2) (pe_ix (r := rIxT K) (by exact ix_tup) (pv 0) pe_int (fun _ _ => rfl)) rfl)) pa_nil))))), ?_⟩
    refine ⟨.ref a, rfl, a, _, 0, .str (kd g.1), rfl, rfl, ha, atI_nat (j := 0) rfl, rfl, _, rfl, ?_⟩
    rw [kd_star]
    refine ite2 (fun e => ?_) (fun e => ?_)
    · refine ⟨.ref b, rfl, b, _, 1, .str f.2, rfl, rfl, hb, atI_nat (j := 1) rfl, f.2, rfl, fun D hD => ?_⟩
      have zs : f.2.cps.size = (ls f).length := (Array.length_toList).symm
      refine lc_it walk_str (fun i H' => ∃ bs : List Bool, H' D = some (.lst (bs.map V.bl)) ∧ bs = ((ls f).take i).map (fun c => decide (c ∈ ls g)) ∧ Same H H') ?_ (fun _ _ _ _ => trivial) ?_ ?_
      · exact ⟨[], upd_same, rfl, same_upd hD⟩
      · rintro i x G G' hi ⟨bs, gD, be, sm⟩ ⟨rfl, d, hd, rfl⟩
        have hd' : (tl f.2)[i]? = some d := by rw [Array.getElem?_toList]; exact hd
        refine ⟨rfl, yes ?_⟩
        refine ⟨_, rfl, .ref a, rfl, a, _, 1, .str g.2, rfl, rfl, same_tup sm _ _ ha, atI_nat (j := 1) rfl, d, g.2, rfl, rfl, _, gD, ?_, bs ++ [decide (d ∈ tl g.2)], ?_, ?_, fun b u e => ?_⟩
        · rw [List.length_map, be, List.length_map, List.length_take, sizeLine_eq]
          omega
        · rw [upd_same, List.map_append]
          rfl
        · rw [be, List.take_add_one, hd', List.map_append]
          rfl
        · exact (upd_ne (ne_of_none e hD)).trans (sm _ _ e)
      · rintro G ⟨bs, gD, be, sm⟩
        refine ⟨D, bs, rfl, SqL.of gD, ?_⟩
        have e2 : bs.all id = sw g f := by
          rw [be, zs, List.take_length]
          unfold sw
          rw [e, Bool.true_and, List.all_map]
          rfl
        rw [e2]
        exact k _ sm
    · have e' : g.1 = false := by simpa using e
      have e2 : sw g f = false := by
        unfold sw
        rw [e']
        rfl
      rw [← e2]
      exact k _ (Same.refl _)
theorem scCov : FnScope ["factor", "other"] ["factor", "other"] (defScope sCovers) := ⟨rfl, rfl, rfl, by decide +kernel, rfl, by decide +kernel, by decide +kernel⟩
theorem ok_cov (D : Df K mg "covers" sCovers ["factor", "other"]) (Ds0 : Df K mg "swallows" sSwallows ["factor", "other"]) (ma : mg "all" = none) : FnOk P w K mg base CX0 2 D.f D.fd ["factor", "other"] (spCov K) := by
  have Gs : FnOk P w K mg base CX0 1 Ds0.f Ds0.fd ["factor", "other"] (spSw K) := ok_sw Ds0 ma
  refine D.F.ok scCov (fun vs H Q E h => ?_) (fun cdv A outer s H vs Q E hr h => ?_)
  · obtain ⟨x, y, g, f, rfl, _⟩ := h
    rfl
  · obtain ⟨x, y, g, f, rfl, hg, hf, lg, lf, k⟩ := h
    refine ⟨_, pss_one (ps_ret (pe_or (pe_cmpR (op_eqD hr.units) (pv 0) (pv 1) (nomark _)) (pe_one (pe_call Gs hr (by rfl) Ds0.g Ds0.F.kp Ds0.b .nil pass0 (pa_cons (pv 0) (pa_cons (pv 1) pa_nil)))))), ?_⟩
    refine ⟨x, rfl, y, rfl, fD g, fD f, hg.dp, hf.dp, fD_shaped lg, fD_shaped lf, _, rfl, ?_⟩
    rw [fD_eqv]
    refine ite2 (fun e => ?_) (fun e => ?_)
    · have e2 : cov g f = true := by
        unfold cov
        rw [e]
        rfl
      rw [← e2]
      exact k _ (Same.refl _)
    · refine ⟨x, rfl, y, rfl, x, y, g, f, rfl, hg, hf, lf.2, fun H' sm => ?_⟩
      have e2 : cov g f = sw g f := by
        unfold cov
        rw [show decide (g = f) = false by simpa using e]
        rfl
      rw [← e2]
      exact k _ sm
theorem drop_at {α : Type} {l : List α} {i : Nat} {x : α} (h : l[i]? = some x) : l.drop i = x :: l.drop (i + 1) := by
  obtain ⟨hi, e⟩ := List.getElem?_eq_some_iff.mp h
  rw [← e]
  exact List.drop_eq_getElem_cons hi
theorem IsFs.at {K : PySem.W.Frag} {H : Hp} : ∀ {vs : List V} {fs : List Fc}, IsFs K H vs fs → ∀ (i : Nat), i < fs.length → ∃ v f, vs[i]? = some v ∧ fs[i]? = some f ∧ IsF K H v f := by
  intro vs fs h i hi
  have hv : i < vs.length := by rw [h.len]; exact hi
  obtain ⟨f, e, q⟩ := h.get i vs[i] (List.getElem?_eq_getElem hv)
  exact ⟨_, f, List.getElem?_eq_getElem hv, e, q⟩
theorem scBeh : FnScope ["product", "place"] ["product", "place"] (defScope sBehind) := ⟨rfl, rfl, rfl, by decide +kernel, rfl, by decide +kernel, by decide +kernel⟩
theorem ok_beh (D : Df K mg "behind" sBehind ["product", "place"]) : FnOk P w K mg base CX0 1 D.f D.fd ["product", "place"] (spBehind K) := by
  refine D.F.ok scBeh (fun vs H Q E h => ?_) (fun cdv A outer s H vs Q E hr h => ?_)
  · obtain ⟨x, q, i, g, rfl, _⟩ := h
    rfl
  · obtain ⟨x, q, i, g, rfl, ⟨b, ys, rfl, hb, iQ⟩, hg, k⟩ := h
    refine ⟨_, pss_cons (ps_if (pt_cmpR op_eq (pe_ix ix_tup (pe_ix ix_tup (pv 0) (pv 1) (fun _ _ => rfl)) pe_int (fun _ _ => rfl)) pe_str (nomark _)) (pss_one (ps_ret (pv 1))) pss_nil)
      (pss_one (ps_ret (pe_op op_add (pv 1) pe_int))), ?_⟩
    obtain ⟨v, g', hv, hg', c, rfl, hc⟩ := iQ.at i (List.getElem?_eq_some_iff.mp hg).1
    rw [hg] at hg'
    cases hg'
    refine ⟨.ref b, rfl, .int (i : Int), rfl, b, ys, (i : Int), .ref c, rfl, rfl, hb, atI_nat hv, c, _, 0, .str (kd g.1), rfl, rfl, hc, atI_nat (j := 0) rfl, rfl, _, rfl, ?_⟩
    rw [kd_star]
    refine ite2 (fun e2 => ?_) (fun e2 => ?_)
    · have kg : g.1 = true := by simpa using e2
      rw [if_pos kg] at k
      exact ⟨_, rfl, k _ (Same.refl _)⟩
    · have kg : g.1 = false := by simpa using e2
      rw [if_neg (by rw [kg]; simp)] at k
      exact ⟨_, rfl, _, _, rfl, rfl, k _ (Same.refl _)⟩
theorem scPlc : FnScope ["product", "other", "start", "place", "factor"] ["product", "other", "start"] (defScope sPlaceBehind) := ⟨rfl, rfl, rfl, by decide +kernel, rfl, by decide +kernel, by decide +kernel⟩
theorem ok_plc (D : Df K mg "place_behind" sPlaceBehind ["product", "other", "start"]) (Db : Df K mg "behind" sBehind ["product", "place"]) (Dc : Df K mg "covers" sCovers ["factor", "other"]) (Ds0 : Df K mg "swallows" sSwallows ["factor", "other"]) (ma : mg "all" = none) (ml : mg "len" = none) :
    FnOk P w K mg base CX0 3 D.f D.fd ["product", "other", "start"] (spPlc K) := by
  have Gc : FnOk P w K mg base CX0 2 Dc.f Dc.fd ["factor", "other"] (spCov K) := ok_cov Dc Ds0 ma
  have Gb : FnOk P w K mg base CX0 1 Db.f Db.fd ["product", "place"] (spBehind K) := ok_beh Db
  refine D.F.ok scPlc (fun vs H Q E h => ?_) (fun cdv A outer s H vs Q E hr h => ?_)
  · obtain ⟨x, y, p, q, s, rfl, _⟩ := h
    rfl
  · obtain ⟨x, y, p, q, st, rfl, ⟨a, xs, rfl, ha, iP⟩, ⟨b, ys, rfl, hb, iQ⟩, hst, pl3, ql3, k⟩ := h
    have hq : IsP K H (.ref b) q := ⟨b, ys, rfl, hb, iQ⟩
    refine ⟨_, PSs.nox (pss_cons (ps_set (i := 3) scPlc.nd rfl (.inl rfl) (pv 2))
      (pss_cons (ps_for PassesOwn.never rfl (pi_tup (pv 0)) (pg_name (i := 4) scPlc.nd rfl (.inl rfl))
        (C8.pss_cut (ps_while PassesOwn.never (pw_and (pt_cmpR op_lt (pv 3) (pe_callB call_len_seq (by rfl) ml PySem.boot_len (pa_cons (pv 1) pa_nil)) (nomark _))
            (pw_and1 (pt_not (pt_val (pe_call Gc hr (by rfl) Dc.g Dc.F.kp Dc.b .nil pass0 (pa_cons (pe_ix ix_tup (pv 1) (pv 3) (fun _ _ => rfl)) (pa_cons (pv 4) pa_nil))))))).pt
          (pss_one (ps_aug (i := 3) scPlc.nd rfl (.inl rfl) pe_int ip_add)))
        (pss_cons (ps_if (pt_cmpR op_eq (pv 3) (pe_callB call_len_seq (by rfl) ml PySem.boot_len (pa_cons (pv 1) pa_nil)) (nomark _)) (pss_one (ps_ret pe_non)) pss_nil)
        (pss_one (ps_set (i := 3) scPlc.nd rfl (.inl rfl) (pe_call Gb (hr.mono (by decide)) (by rfl) Db.g Db.F.kp Db.b .nil pass0 (pa_cons (pv 1) (pa_cons (pv 3) pa_nil))))))))
      (pss_one (ps_ret (pv 3))))), ?_⟩
    have yl : ys.length = q.length := iQ.len
    refine ⟨_, rfl, .ref a, rfl, a, rfl, ⟨xs, ha⟩, for_it (walk_tup (xs := xs)) (fun i σ H' => ∃ (pl : Nat) (y3 : Option V), σ = [some (.ref a), some (.ref b), some (.int (st : Int)), some (.int pl), y3] ∧ Same H H' ∧ pl ≤ q.length ∧ rst (q.drop pl) (p.drop i) = rst (q.drop st) p)
      ⟨st, _, rfl, Same.refl _, hst, rfl⟩ (fun _ _ H' _ ⟨_, _, _, sm, _⟩ => same_tup sm _ _ ha) ?_ ?_⟩
    · rintro i x σ G G' hi ⟨pl, y3, rfl, sm, hpl, ei⟩ ⟨rfl, hx⟩
      obtain ⟨f, hf, isf⟩ := iP.get i x hx
      have fm : f ∈ p := List.mem_of_getElem? hf
      rw [drop_at hf] at ei
      refine ⟨fun σ' H' => ∃ pl : Nat, σ' = [some (.ref a), some (.ref b), some (.int (st : Int)), some (.int pl), some x] ∧ Same H H' ∧ pl ≤ q.length ∧ rst (q.drop pl) (f :: p.drop (i + 1)) = rst (q.drop st) p ∧ ∀ g, q[pl]? = some g → cov g f = true, ?_, ?_⟩
      · refine ⟨fun m σ' H' => ∃ pl : Nat, σ' = [some (.ref a), some (.ref b), some (.int (st : Int)), some (.int pl), some x] ∧ Same H H' ∧ pl ≤ q.length ∧ rst (q.drop pl) (f :: p.drop (i + 1)) = rst (q.drop st) p ∧ m = q.length - pl, ⟨_, pl, rfl, sm, hpl, ei, rfl⟩, ?_⟩
        rintro m σ' H' ⟨pl, rfl, sm, hpl, ei, rfl⟩
        refine ⟨.int pl, rfl, .ref b, rfl, b, ys, rfl, .inr (same_tup sm _ _ hb), _, _, rfl, rfl, _, rfl, ite2 (fun e => ?_) (fun e => ?_)⟩
        · have lt : pl < q.length := by
            have := of_decide_eq_true e
            omega
          obtain ⟨v, g, hv, hg, isg⟩ := iQ.at pl lt
          refine ⟨.ref b, rfl, .int pl, rfl, b, ys, (pl : Int), v, rfl, rfl, same_tup sm _ _ hb, atI_nat hv, x, rfl, v, x, g, f, rfl, isg.mono (same_tup sm), isf.mono (same_tup sm), ql3 g (List.mem_of_getElem? hg), pl3 f fm, fun H2 s2 => ?_⟩
          refine ⟨_, rfl, ?_⟩
          have eg := drop_at hg
          refine ite2 (fun e2 => ?_) (fun e2 => ?_)
          · have c : cov g f = false := by simpa using e2
            refine ⟨fun σ' H' => ∃ y, σ' = [some (.ref a), some (.ref b), some (.int (st : Int)), y, some x] ∧ y = some (.int ((pl + 1 : Nat) : Int)) ∧ Same H H', fun σ' H' h => ?_, ?_⟩
            · obtain ⟨y, rfl, rfl, s3⟩ := h
              refine ⟨q.length - (pl + 1), by omega, pl + 1, rfl, s3, by omega, ?_, rfl⟩
              rw [eg, rst_cons, if_neg (by rw [c]; simp)] at ei
              exact ei
            · exact ⟨_, rfl, _, _, rfl, rfl, _, rfl, rfl, sm.trans s2⟩
          · have c : cov g f = true := by simpa using e2
            exact ⟨pl, rfl, sm.trans s2, hpl, ei, fun g' hg' => by rw [hg] at hg'; cases hg'; exact c⟩
        · have ge : q.length ≤ pl := by
            have : ¬ (pl : Int) < (ys.length : Int) := fun z => e (decide_eq_true z)
            omega
          exact ⟨pl, rfl, sm, hpl, ei, fun g hg => by
            have := (List.getElem?_eq_some_iff.mp hg).1
            omega⟩
      · rintro σ' H' ⟨pl, rfl, sm, hpl, ei, cv⟩
        refine ⟨.int pl, rfl, .ref b, rfl, b, ys, rfl, .inr (same_tup sm _ _ hb), rfl, _, rfl, ite2 (fun e => ?_) (fun e => ?_)⟩
        · have e' : pl = q.length := by
            have := V.int.inj (of_decide_eq_true e)
            omega
          rw [e', List.drop_length, rst_none] at ei
          show Q .non _
          have k' := k _ sm
          rw [← ei] at k'
          exact k'
        · have lt : pl < q.length := by
            have : ¬ V.int (pl : Int) = V.int (ys.length : Int) := fun z => e (decide_eq_true z)
            have : ¬ pl = ys.length := fun z => this (by rw [z])
            omega
          obtain ⟨v, g, hv, hg, _⟩ := iQ.at pl lt
          have eg := drop_at hg
          rw [eg, rst_cons, if_pos (cv g hg)] at ei
          refine ⟨.ref b, rfl, .int pl, rfl, .ref b, q, pl, g, rfl, hq.mono (same_tup sm), hg, fun H2 s2 => ?_⟩
          refine ⟨if g.1 = true then pl else pl + 1, _, rfl, sm.trans s2, by split <;> omega, ?_⟩
          by_cases kg : g.1 = true
          · rw [if_pos kg, ← eg] at ei
            rw [if_pos kg]
            exact ei
          · rw [if_neg kg] at ei
            rw [if_neg kg]
            exact ei
    · rintro σ H' ⟨pl, y3, rfl, sm, hpl, ei⟩
      rw [iP.len, List.drop_length, rst_nil] at ei
      have k' := k _ sm
      rw [← ei] at k'
      refine ⟨_, rfl, ?_⟩
      have e3 : plV q.length (some (q.drop pl)) = .int (pl : Int) := by
        show V.int _ = _
        rw [List.length_drop, show q.length - (q.length - pl) = pl by omega]
      rw [e3] at k'
      exact k'
theorem scIncl : FnScope ["product", "other"] ["product", "other"] (defScope sIsIncluded) := ⟨rfl, rfl, rfl, by decide +kernel, rfl, by decide +kernel, by decide +kernel⟩
structure DfIncl (K : PySem.W.Frag) (mg : Str → Option Value) where
  i : Df K mg "is_included" sIsIncluded ["product", "other"]
  p : Df K mg "place_behind" sPlaceBehind ["product", "other", "start"]
  b : Df K mg "behind" sBehind ["product", "place"]
  c : Df K mg "covers" sCovers ["factor", "other"]
  s : Df K mg "swallows" sSwallows ["factor", "other"]
theorem ok_incl (D : DfIncl K mg) (ma : mg "all" = none) (ml : mg "len" = none) :
    FnOk P w K mg base CX0 4 D.i.f D.i.fd ["product", "other"] (spIncl K) := by
  have Gp : FnOk P w K mg base CX0 3 D.p.f D.p.fd ["product", "other", "start"] (spPlc K) := ok_plc D.p D.b D.c D.s ma ml
  refine D.i.F.ok scIncl (fun vs H Q E h => ?_) (fun cdv A outer s H vs Q E hr h => ?_)
  · obtain ⟨x, y, p, q, rfl, _⟩ := h
    rfl
  · obtain ⟨x, y, p, q, rfl, hp, hq, pl3, ql3, k⟩ := h
    refine ⟨_, pss_one (ps_ret (pe_cmpR op_notN (pe_call Gp hr (by rfl) D.p.g D.p.F.kp D.p.b .nil pass0 (pa_cons (pv 0) (pa_cons (pv 1) (pa_cons pe_int pa_nil)))) pe_non (nomark _))), ?_⟩
    refine ⟨_, rfl, _, rfl, x, y, p, q, 0, rfl, hp, hq, Nat.zero_le _, pl3, ql3, fun H' sm => ⟨rfl, ?_⟩⟩
    rw [List.drop_zero]
    have e : (!decide (plV q.length (rst q p) = V.non)) = inc q p := by
      rw [← rst_inc]
      cases rst q p with
      | none => rfl
      | some r => rfl
    rw [e]
    exact k _ sm
end
end DW
namespace DW
open PySem PySem.Spec PyProof.Rows L2 TL
set_option autoImplicit false
/-! ### all ways to divide, by places -/
theorem dp_step {gs : List Fc} {f : Fc} {w : List Nat} {k c : Nat} (hk : w[k]? = some c) :
    Lg (gs ++ [f]) (w.take (k + 1)) ↔ Lg gs (w.take (k + 1)) ∨ (c ∈ ls f ∧ if f.1 = true then Lg (gs ++ [f]) (w.take k) else Lg gs (w.take k)) := by
  have e : w.take (k + 1) = w.take k ++ [c] := by rw [List.take_add_one, hk] <;> rfl
  rw [Lg.snoc]
  constructor
  · rintro (h | ⟨u, d, e2, hd, h⟩)
    · exact .inl h
    · rw [e] at e2
      obtain ⟨e3, e4⟩ := List.append_inj' e2 rfl
      cases e4
      rw [← e3] at h
      exact .inr ⟨hd, h⟩
  · rintro (h | ⟨hc, h⟩)
    · exact .inl h
    · exact .inr ⟨_, c, e, hc, h⟩
/-- bs tells for each place k up to |w| whether the letters ahead of it are a word -/
def Row (fs : List Fc) (w : List Nat) (bs : List Bool) : Prop := bs.length = w.length + 1 ∧ ∀ k b, bs[k]? = some b → (b = true ↔ Lg fs (w.take k))
/-- up to the place j the new factor counts -/
def Mid (gs : List Fc) (f : Fc) (w : List Nat) (j : Nat) (bs : List Bool) : Prop := bs.length = w.length + 1 ∧ ∀ k b, bs[k]? = some b → (b = true ↔ if k ≤ j then Lg (gs ++ [f]) (w.take k) else Lg gs (w.take k))
theorem mid_start {gs : List Fc} {f : Fc} {w : List Nat} {bs : List Bool} (h : Row gs w bs) : Mid gs f w 0 bs := by
  refine ⟨h.1, fun k b hk => ?_⟩
  rw [h.2 k b hk]
  by_cases c : k ≤ 0
  · have e : k = 0 := by omega
    subst e
    rw [if_pos c, List.take_zero]
    exact ⟨fun _ => Lg.empty _, fun _ => Lg.empty _⟩
  · rw [if_neg c]
theorem mid_end {gs : List Fc} {f : Fc} {w : List Nat} {bs : List Bool} (h : Mid gs f w w.length bs) : Row (gs ++ [f]) w bs := by
  refine ⟨h.1, fun k b hk => ?_⟩
  have := (List.getElem?_eq_some_iff.mp hk).1
  rw [h.2 k b hk, if_pos (by rw [h.1] at this; omega)]
theorem mid_set {gs : List Fc} {f : Fc} {w : List Nat} {j c : Nat} {bs : List Bool} (hj : w[j]? = some c) (h : Mid gs f w j bs) (hc : c ∈ ls f) (hs : if f.1 = true then Lg (gs ++ [f]) (w.take j) else Lg gs (w.take j)) : Mid gs f w (j + 1) (bs.set (j + 1) true) := by
  refine ⟨by rw [List.length_set, h.1], fun k b hk => ?_⟩
  by_cases e : k = j + 1
  · subst e
    have hl : j + 1 < bs.length := by
      have := (List.getElem?_eq_some_iff.mp hj).1
      rw [h.1]
      omega
    rw [List.getElem?_set_self hl] at hk
    cases hk
    rw [if_pos (Nat.le_refl _), dp_step hj]
    exact ⟨fun _ => .inr ⟨hc, hs⟩, fun _ => rfl⟩
  · rw [List.getElem?_set_ne (fun z => e z.symm)] at hk
    rw [h.2 k b hk]
    by_cases c : k ≤ j
    · rw [if_pos c, if_pos (by omega)]
    · rw [if_neg c, if_neg (by omega)]
theorem mid_not {gs : List Fc} {f : Fc} {w : List Nat} {j c : Nat} {bs : List Bool} (hj : w[j]? = some c) (h : Mid gs f w j bs) (hn : ¬ (c ∈ ls f ∧ if f.1 = true then Lg (gs ++ [f]) (w.take j) else Lg gs (w.take j))) : Mid gs f w (j + 1) bs := by
  refine ⟨h.1, fun k b hk => ?_⟩
  rw [h.2 k b hk]
  by_cases e : k = j + 1
  · subst e
    rw [if_neg (by omega), if_pos (Nat.le_refl _), dp_step hj]
    exact ⟨.inl, fun z => z.elim id fun q => absurd q hn⟩
  · by_cases c : k ≤ j
    · rw [if_pos c, if_pos (by omega)]
    · rw [if_neg c, if_neg (by omega)]
theorem Lg.of_nil {u : List Nat} (h : Lg [] u) : u = [] := by
  cases h
  rfl
def spInP (K : PySem.W.Frag) : Sp := fun vs H Q _ => ∃ (v : V) (fs : List Fc) (z : Str), vs = [v, .str z] ∧ IsP K H v fs ∧ (tl z).length ≤ 100000 ∧ ∀ H' b, Same H H' → (b = true ↔ Lg fs (tl z)) → Q (.bl b) H'
theorem mapbl_set (bs : List Bool) (j : Nat) (b : Bool) : (bs.map V.bl).set j (.bl b) = (bs.set j b).map V.bl := by
  rw [List.map_set]
section
variable {P : Program} {w : World} {K : PySem.W.Frag} {mg : Str → Option Value} {base : Heap}
theorem scInP : FnScope ["_law_product_here", "_law_word", "_law_places", "_law_kind", "_law_letters", "_law_before", "_law_k", "_law_source"] ["_law_product_here", "_law_word"] (defScope sLInProduct) := ⟨rfl, rfl, rfl, by decide +kernel, rfl, by decide +kernel, by decide +kernel⟩
theorem ok_inp (D : Df K mg "_law_in_product" sLInProduct ["_law_product_here", "_law_word"]) (B : Bl mg) (ml : mg "list" = none) : FnOk P w K mg base CX0 1 D.f D.fd ["_law_product_here", "_law_word"] (spInP K) := by
  refine D.F.ok scInP (fun vs H Q E h => ?_) (fun cdv A outer s H vs Q E hr h => ?_)
  · obtain ⟨v, fs, z, rfl, _⟩ := h
    rfl
  · obtain ⟨v, fs, z, rfl, ⟨a, xs, rfl, ha, iF⟩, zl, k⟩ := h
    have zs : z.length = (tl z).length := (Array.length_toList).symm
    refine ⟨_, PSs.nox (pss_cons (ps_set (i := 2) scInP.nd rfl (.inl rfl) (pe_op op_cat (pe_lst (pa_cons pe_bl pa_nil)) (pe_op op_rep (pe_lst (pa_cons pe_bl pa_nil)) (pe_callB call_len_str (by rfl) B.len PySem.boot_len (pa_cons (pv 1) pa_nil)))))
      (pss_cons (ps_for PassesOwn.never rfl (pi_tup (pv 0)) (pg_tup rfl (pgs_cons (pg_name (i := 3) scInP.nd rfl (.inl rfl)) (pgs_cons (pg_name (i := 4) scInP.nd rfl (.inl rfl)) pgs_nil)))
        (pss_cons (ps_set (i := 5) scInP.nd rfl (.inl rfl) (pe_callTy call_list_of (by rfl) ml (by decide +kernel) (pa_cons (pv 2) pa_nil)))
        (pss_one (ps_for PassesOwn.never rfl (pi_range1 rfl B.range (pa_cons (pe_callB call_len_str (by rfl) B.len PySem.boot_len (pa_cons (pv 1) pa_nil)) pa_nil)) (pg_name (i := 6) scInP.nd rfl (.inl rfl))
          (pss_cons (ps_set (i := 7) scInP.nd rfl (.inl rfl) (pe_ifExp (pt_cmpR op_eq (pv 3) pe_str (nomark _)) (pv 2) (pv 5)))
          (pss_one (ps_if (pw_and (pt_val (pe_ix ix_list (pv 7) (pv 6) (fun _ _ => rfl))) (pw_and1 (pt_cmpR op_in_sign (pe_ix ix_str (pv 1) (pv 6) (fun _ _ => rfl)) (pv 4) rfl))).pt
            (pss_one (ps_asg pe_bl (pg_sub (pv 2) (pe_op op_add (pv 6) pe_int) set_list))) pss_nil)))))))
      (pss_one (ps_ret (pe_ix ix_list (pv 2) (pe_callB call_len_str (by rfl) B.len PySem.boot_len (pa_cons (pv 1) pa_nil)) (fun _ _ => rfl)))))), ?_⟩
    have zsz : z.length ≤ sizeLine := by rw [zs, sizeLine_eq]; omega
    refine ⟨by show 1 ≤ sizeLine; decide, fun l1 e1 => ?_⟩
    refine ⟨by show 1 ≤ sizeLine; decide, fun l2 e2 => ?_⟩
    have s1 := same_upd (o := .lst [.bl true]) e1
    have s2 := same_upd (o := .lst [.bl false]) e2
    refine ⟨.str z, rfl, z, rfl, zsz, l2, (z.length : Int), _, rfl, rfl, upd_same, by omega, by omega, by show 1 * _ ≤ _; rw [sizeLine_eq]; omega, fun l3 e3 => ?_⟩
    have s3 := same_upd (o := .lst (List.replicate (z.length : Int).toNat [V.bl false]).flatten) e3
    refine ⟨l1, l3, _, _, rfl, rfl, s3 _ _ (s2 _ _ upd_same), upd_same, ?_, fun l e4 => ?_⟩
    · rw [sizeLine_eq]
      simp
      omega
    have eb : ([V.bl true] ++ (List.replicate (z.length : Int).toNat [V.bl false]).flatten) = (true :: List.replicate (tl z).length false).map V.bl := by
      rw [List.map_cons, List.map_replicate, ← zs]
      show V.bl true :: _ = _
      congr 1
      simp
    rw [eb] at *
    have s4 := same_upd (o := .lst ((true :: List.replicate (tl z).length false).map V.bl)) e4
    have sa : Same H _ := ((s1.trans s2).trans s3).trans s4
    have l0 : H l = none := ((s1.trans s2).trans s3).free e4
    have start : Row [] (tl z) (true :: List.replicate (tl z).length false) := by
      refine ⟨by simp, fun k b hk => ?_⟩
      cases k with
      | zero =>
        have : b = true := by
          have := Option.some.inj hk
          exact this.symm
        rw [this, List.take_zero]
        exact ⟨fun _ => .nil, fun _ => rfl⟩
      | succ k =>
        rw [List.getElem?_cons_succ, List.getElem?_replicate] at hk
        by_cases c : k < (tl z).length
        · rw [if_pos c] at hk
          cases hk
          constructor
          · intro h
            cases h
          · intro h
            have : (tl z).take (k + 1) = [] := Lg.of_nil h
            have := congrArg List.length this
            rw [List.length_take, List.length_nil] at this
            omega
        · rw [if_neg c] at hk
          cases hk
    refine ⟨.ref a, rfl, a, rfl, ⟨xs, same_tup sa _ _ ha⟩, for_it (walk_tup (xs := xs)) (fun i σ H' => ∃ (bs : List Bool) (y3 y4 y5 y6 y7 : Option V), σ = [some (.ref a), some (.str z), some (.ref l), y3, y4, y5, y6, y7] ∧ H' l = some (.lst (bs.map V.bl)) ∧ Row (fs.take i) (tl z) bs ∧ Same H H')
      ⟨_, _, _, _, _, _, rfl, upd_same, start, sa⟩ (fun _ _ H' _ ⟨_, _, _, _, _, _, _, _, _, sm⟩ => same_tup sm _ _ ha) ?_ ?_⟩
    · rintro i x σ G G' hi ⟨bs, y3, y4, y5, y6, y7, rfl, gl, row, sm⟩ ⟨rfl, hx⟩
      obtain ⟨f, hf, b, rfl, hb⟩ := iF.get i x hx
      have tk : fs.take (i + 1) = fs.take i ++ [f] := by rw [List.take_add_one, hf] <;> rfl
      refine ⟨b, _, rfl, same_tup sm _ _ hb, rfl, _, _, rfl, _, _, rfl, rfl, ?_⟩
      refine ⟨.ref l, rfl, l, _, rfl, .inl (SqL.of gl), fun d hd => ?_⟩
      have sd := same_upd (o := .lst (bs.map V.bl)) hd
      have nld : l ≠ d := ne_of_none gl hd
      have d0 : H d = none := sm.free hd
      refine ⟨.str z, rfl, z, rfl, zsz, (z.length : Int), rfl, by omega, by omega, ?_⟩
      refine for_it (n := z.length) walk_range (fun j σ H' => ∃ (cs : List Bool) (y6 y7 : Option V), σ = [some (.ref a), some (.str z), some (.ref l), some (.str (kd f.1)), some (.str f.2), some (.ref d), y6, y7] ∧ H' l = some (.lst (cs.map V.bl)) ∧ H' d = some (.lst (bs.map V.bl)) ∧ Mid (fs.take i) f (tl z) j cs ∧ Same H H')
        ⟨bs, _, _, rfl, sd _ _ gl, upd_same, mid_start row, sm.trans sd⟩ (fun _ _ _ _ _ => trivial) ?_ ?_
      · rintro j x σ G1 G2 hj ⟨cs, y6, y7, rfl, g1, g2, mid, sm1⟩ ⟨rfl, rfl⟩
        have jl : j < (tl z).length := by omega
        have hz : (tl z)[j]? = some (tl z)[j] := List.getElem?_eq_getElem jl
        have e0 : (0 : Int) + (j : Int) = (j : Int) := by omega
        refine ⟨.str (kd f.1), rfl, rfl, _, rfl, ?_⟩
        rw [kd_star]
        refine ite2 (fun e => ?_) (fun e => ?_)
        · obtain ⟨t, ht, hst⟩ : ∃ t, cs[j]? = some t ∧ (t = true ↔ if f.1 = true then Lg (fs.take i ++ [f]) ((tl z).take j) else Lg (fs.take i) ((tl z).take j)) := by
            have jb : j < cs.length := by rw [mid.1]; omega
            refine ⟨_, List.getElem?_eq_getElem jb, ?_⟩
            rw [mid.2 j _ (List.getElem?_eq_getElem jb), if_pos (Nat.le_refl _), if_pos e]
          refine ⟨.ref l, rfl, ?_⟩
          refine ⟨.ref l, rfl, .int (0 + (j : Int)), rfl, l, _, _, .bl t, rfl, rfl, SqL.of g1, at_of (j := j) e0 (by rw [List.getElem?_map, ht]; rfl), t, rfl, ite2 (fun e2 => ?_) (fun e2 => ?_)⟩
          · refine ⟨.str z, rfl, .int (0 + (j : Int)), rfl, z, _, (tl z)[j], rfl, rfl, zsz, at_cp (j := j) e0 hz, .str f.2, rfl, (tl z)[j], f.2, rfl, rfl, _, rfl, ite2 (fun e3 => ?_) (fun e3 => ?_)⟩
            · have hc : (tl z)[j] ∈ ls f := of_decide_eq_true e3
              have cl : j + 1 < (cs.map V.bl).length := by rw [List.length_map, mid.1]; omega
              refine ⟨.ref l, rfl, .int (0 + (j : Int)), rfl, _, _, rfl, rfl, l, _, _, j + 1, rfl, rfl, g1, ?_, ?_⟩
              · show ixN _ (0 + (j : Int) + 1) = some (j + 1)
                unfold ixN
                rw [if_pos (by omega), if_pos (by omega)]
                congr 1
                omega
              · rw [mapbl_set]
                exact ⟨_, _, _, rfl, upd_same, (upd_ne nld.symm).trans g2, mid_set hz mid hc (hst.mp e2), fun b u e => (upd_ne (ne_of_none e l0)).trans (sm1 _ _ e)⟩
            · exact ⟨cs, _, _, rfl, g1, g2, mid_not hz mid fun q => e3 (decide_eq_true q.1), sm1⟩
          · exact iteF ⟨cs, _, _, rfl, g1, g2, mid_not hz mid fun q => e2 (hst.mpr q.2), sm1⟩
        · obtain ⟨t, ht, hst⟩ : ∃ t, bs[j]? = some t ∧ (t = true ↔ if f.1 = true then Lg (fs.take i ++ [f]) ((tl z).take j) else Lg (fs.take i) ((tl z).take j)) := by
            have jb : j < bs.length := by rw [row.1]; omega
            refine ⟨_, List.getElem?_eq_getElem jb, ?_⟩
            rw [row.2 j _ (List.getElem?_eq_getElem jb), if_neg e]
          refine ⟨.ref d, rfl, ?_⟩
          refine ⟨.ref d, rfl, .int (0 + (j : Int)), rfl, d, _, _, .bl t, rfl, rfl, SqL.of g2, at_of (j := j) e0 (by rw [List.getElem?_map, ht]; rfl), t, rfl, ite2 (fun e2 => ?_) (fun e2 => ?_)⟩
          · refine ⟨.str z, rfl, .int (0 + (j : Int)), rfl, z, _, (tl z)[j], rfl, rfl, zsz, at_cp (j := j) e0 hz, .str f.2, rfl, (tl z)[j], f.2, rfl, rfl, _, rfl, ite2 (fun e3 => ?_) (fun e3 => ?_)⟩
            · have hc : (tl z)[j] ∈ ls f := of_decide_eq_true e3
              have cl : j + 1 < (cs.map V.bl).length := by rw [List.length_map, mid.1]; omega
              refine ⟨.ref l, rfl, .int (0 + (j : Int)), rfl, _, _, rfl, rfl, l, _, _, j + 1, rfl, rfl, g1, ?_, ?_⟩
              · show ixN _ (0 + (j : Int) + 1) = some (j + 1)
                unfold ixN
                rw [if_pos (by omega), if_pos (by omega)]
                congr 1
                omega
              · rw [mapbl_set]
                exact ⟨_, _, _, rfl, upd_same, (upd_ne nld.symm).trans g2, mid_set hz mid hc (hst.mp e2), fun b u e => (upd_ne (ne_of_none e l0)).trans (sm1 _ _ e)⟩
            · exact ⟨cs, _, _, rfl, g1, g2, mid_not hz mid fun q => e3 (decide_eq_true q.1), sm1⟩
          · exact iteF ⟨cs, _, _, rfl, g1, g2, mid_not hz mid fun q => e2 (hst.mpr q.2), sm1⟩
      · rintro σ H' ⟨cs, y6, y7, rfl, g1, g2, mid, sm1⟩
        exact ⟨cs, _, _, _, _, _, rfl, g1, by rw [tk]; exact mid_end (by rw [← zs]; exact mid), sm1⟩
    · rintro σ H' ⟨bs, y3, y4, y5, y6, y7, rfl, gl, row, sm⟩
      rw [iF.len, List.take_length] at row
      have hl : (tl z).length < bs.length := by rw [row.1]; omega
      have hb := List.getElem?_eq_getElem hl
      refine ⟨.ref l, rfl, .str z, rfl, z, rfl, zsz, l, _, _, .bl bs[(tl z).length], rfl, rfl, SqL.of gl, at_of (j := (tl z).length) (by rw [zs]) (by rw [List.getElem?_map, hb]; rfl), k _ _ sm ?_⟩
      have := row.2 _ _ hb
      rw [List.take_length] at this
      exact this
end
end DW
namespace DW
open PySem PySem.Spec PyProof.Rows L2 TL
set_option autoImplicit false
theorem fok_w1 {z : Str} {fs : List Fc} (h : ∀ f ∈ fs, FOk z f) : W1 fs := fun f hf => ⟨(h f hf).1, (h f hf).2.2⟩
theorem fok_len {z : Str} (al : Alph z) {f : Fc} (h : FOk z f) : (ls f).length ≤ 3 := Nat.le_trans h.2.1.length_le al.2.2.1
theorem fok_low {z : Str} (al : Alph z) {f : Fc} (h : FOk z f) : Low f := ⟨fun c hc => by
  have := al.2.2.2 c (h.2.1.subset hc)
  omega, Nat.le_trans (fok_len al h) (by decide)⟩
theorem alph_ne {z : Str} (al : Alph z) : tl z ≠ [] := fun q => by
  have := al.2.1
  rw [q] at this
  cases this
theorem inc_iff {p q : List Fc} (wp : W1 p) (wq : W1 q) : inc q p = true ↔ Lg q (unf p (q.length + 1)) :=
  ⟨fun h => inc_sound q p h _ (Lg.unf _ p fun f hf => (wp f hf).2), fun h => inc_complete (q.length + 1) p q wp wq (Nat.lt_succ_self _) h⟩
/-! ### words as products of optional letters -/
def ones (w : List Nat) : List Fc := w.map fun c => (false, one c)
theorem unf_ones (w : List Nat) (m : Nat) : unf (ones w) m = w := by
  unfold unf ones
  induction w with
  | nil => rfl
  | cons c w ih =>
    rw [List.map_cons, List.map_cons, List.flatten_cons, ih]
    rfl
theorem w1_ones (w : List Nat) : W1 (ones w) := fun f hf => by
  obtain ⟨c, _, rfl⟩ := List.mem_map.mp hf
  exact ⟨by simp [ls, one], fun _ => rfl⟩
theorem acc_iff {q : List Fc} (wq : W1 q) (w : List Nat) : inc q (ones w) = true ↔ Lg q w := by
  rw [inc_iff (w1_ones w) wq, unf_ones]
theorem low_ones {w : List Nat} (h : ∀ c ∈ w, c < 128) : ∀ f ∈ ones w, Low f := fun f hf => by
  obtain ⟨c, hc, rfl⟩ := List.mem_map.mp hf
  exact ⟨fun d hd => by rw [List.mem_singleton.mp hd]; exact h c hc, by show 1 ≤ 1000; decide⟩
theorem Lg.sub {fs : List Fc} {u w : List Nat} (h : Lg fs u) (s : w.Sublist u) : Lg fs w := by
  induction h generalizing w with
  | nil =>
    rw [List.sublist_nil.mp s]
    exact .nil
  | skip h ih => exact .skip (ih s)
  | opt k m h ih =>
    cases s with
    | cons _ s => exact .skip (ih s)
    | cons_cons _ s => exact .opt k m (ih s)
  | star k m h ih =>
    cases s with
    | cons _ s => exact ih s
    | cons_cons _ s => exact .star k m (ih s)
theorem sub_rep {L : List Nat} : ∀ (u : List Nat) (m : Nat), (∀ c ∈ u, c ∈ L) → u.length ≤ m → u.Sublist (List.replicate m L).flatten
  | [], _, _, _ => List.nil_sublist _
  | c :: u, 0, _, h => by simp at h
  | c :: u, m + 1, h, hl => by
    rw [List.replicate_succ, List.flatten_cons]
    have h1 : [c].Sublist L := List.singleton_sublist.mpr (h c List.mem_cons_self)
    have h2 := sub_rep u m (fun d hd => h d (List.mem_cons_of_mem _ hd)) (by rw [List.length_cons] at hl; omega)
    exact h1.append h2
theorem Lg.to_unf (m : Nat) : ∀ (fs : List Fc) (w : List Nat), (∀ f ∈ fs, f.1 = false → (ls f).length = 1) → Lg fs w → w.length ≤ m → w.Sublist (DW.unf fs m)
  | [], w, _, h, _ => by
    rw [Lg.of_nil h]
    exact List.nil_sublist _
  | f :: fs, w, h1, h, hl => by
    obtain ⟨u, v, rfl, hu, hv⟩ := Lg.split (fs := [f]) h
    rw [List.length_append] at hl
    have ih := Lg.to_unf m fs v (fun g hg => h1 g (List.mem_cons_of_mem _ hg)) hv (by omega)
    have e : DW.unf (f :: fs) m = piece m f ++ DW.unf fs m := rfl
    rw [e]
    refine List.Sublist.append ?_ ih
    unfold piece
    by_cases k : f.1 = true
    · rw [if_pos k]
      exact sub_rep u m ((Lg.one_star k).mp hu) (by omega)
    · rw [if_neg k]
      have k' : f.1 = false := by simpa using k
      rcases Lg.one_opt k' hu with e | ⟨c, hc, e⟩
      · rw [e]
        exact List.nil_sublist _
      · rw [e]
        exact List.singleton_sublist.mpr hc
theorem sub_unf_iff {fs : List Fc} (wf : W1 fs) {w : List Nat} {m : Nat} (hm : w.length ≤ m) : w.Sublist (unf fs m) ↔ Lg fs w :=
  ⟨fun s => (Lg.unf m fs fun f hf => (wf f hf).2).sub s, fun h => Lg.to_unf m fs w (fun f hf => (wf f hf).2) h hm⟩
/-! ### letters taken one after the other -/
def rem : List Nat → List Nat → List Nat
  | w, [] => w
  | [], _ :: _ => []
  | c :: w, d :: o => if c = d then rem w o else rem (c :: w) o
theorem rem_nil : ∀ o : List Nat, rem [] o = []
  | [] => rfl
  | _ :: _ => rfl
theorem rem_iff : ∀ (o w : List Nat), rem w o = [] ↔ w.Sublist o
  | [], w => by
    show w = [] ↔ _
    rw [List.sublist_nil]
  | d :: o, [] => by simp [rem]
  | d :: o, c :: w => by
    show (if c = d then rem w o else rem (c :: w) o) = [] ↔ _
    by_cases e : c = d
    · subst e
      rw [if_pos rfl, rem_iff o w, List.cons_sublist_cons]
    · rw [if_neg e, rem_iff o (c :: w)]
      constructor
      · exact fun h => .cons _ h
      · intro h
        cases h with
        | cons _ h => exact h
        | cons_cons _ h => exact absurd rfl e
theorem cut_tail {z : Str} {c : Nat} {r : List Nat} (h : tl z = c :: r) : tl (cutS z (some 1) none) = r := by
  have zl : z.length = r.length + 1 := by
    have e : z.length = (tl z).length := (Array.length_toList).symm
    rw [e, h]
    rfl
  show ((z.cps.toList.drop (HT.sIx z.length 0 (some 1))).take (HT.sIx z.length z.length none - HT.sIx z.length 0 (some 1))) = r
  rw [show HT.sIx z.length 0 (some 1) = min 1 z.length from HT.sIx_nat z.length 0 1, HT.sIx_none]
  have h' : z.cps.toList = c :: r := h
  rw [h', show min 1 z.length = 1 by omega, show z.length - 1 = r.length by omega]
  show List.take r.length r = r
  exact List.take_length
def spSubw (K : PySem.W.Frag) : Sp := fun vs H Q _ => ∃ z : Str, vs = [.str z] ∧ (tl z).length ≤ 100000 ∧ ∀ H' v, Same H H' → IsP K H' v (ones (tl z)) → Q v H'
def spAcc (K : PySem.W.Frag) : Sp := fun vs H Q _ => ∃ (v : V) (fs : List Fc) (z : Str), vs = [v, .str z] ∧ IsP K H v fs ∧ W1 fs ∧ (∀ f ∈ fs, Low f) ∧ (tl z).length ≤ 100000 ∧ (∀ c ∈ tl z, c < 128) ∧ ∀ H' b, Same H H' → (b = true ↔ Lg fs (tl z)) → Q (.bl b) H'
section
variable {P : Program} {w : World} {K : PySem.W.Frag} {mg : Str → Option Value} {base : Heap}
theorem scSubw : FnScope ["word", "letter"] ["word"] (defScope sSubwordsProduct) := ⟨rfl, rfl, rfl, by decide +kernel, rfl, by decide +kernel, by decide +kernel⟩
theorem ok_subw (D : Df K mg "subwords_product" sSubwordsProduct ["word"]) (mt : mg "tuple" = none) : FnOk P w K mg base CX0 1 D.f D.fd ["word"] (spSubw K) := by
  refine D.F.ok scSubw (fun vs H Q E h => ?_) (fun cdv A outer s H vs Q E hr h => ?_)
  · obtain ⟨z, rfl, _⟩ := h
    rfl
  · obtain ⟨z, rfl, zl, k⟩ := h
    have zs : z.cps.size = (tl z).length := (Array.length_toList).symm
    refine ⟨_, (pss_one (ps_ret (pe_callTy call_tuple_of (by rfl) mt (by decide +kernel) (pa_cons (pe_lc (own := [("letter", 1)]) (g := gName 1) rfl scSubw.nd (pi_str (pv 0)) (blkOk_by (N := ["word", "letter"]) (sc := defScope sSubwordsProduct) (by decide +kernel)) (fun _ _ _ _ _ => pg_name (i := 1) scSubw.nd rfl (Or.inl rfl)) (fun _ _ _ _ _ => pts_nil) (fun _ _ _ _ _ => (pe_tup (pa_cons pe_str (pa_cons (pv 1) pa_nil))))) pa_nil)))), ?_⟩
    refine ⟨.str z, rfl, z, rfl, fun D hD => ?_⟩
    refine lc_it walk_str (fun i H' => ∃ us : List V, H' D = some (.lst us) ∧ IsFs K H' us (ones ((tl z).take i)) ∧ Same H H') ?_ (fun _ _ _ _ => trivial) ?_ ?_
    · exact ⟨[], upd_same, .nil, same_upd hD⟩
    · rintro i x G G' hi ⟨us, gD, iF, sm⟩ ⟨rfl, d, hd, rfl⟩
      have hd' : (tl z)[i]? = some d := by rw [Array.getElem?_toList]; exact hd
      refine ⟨rfl, yes ?_⟩
      refine ⟨_, rfl, by show 2 ≤ sizeLine; decide, fun p hp => ?_⟩
      have sp := same_upd (o := .tup [.str "opt", .str ⟨#[d]⟩]) hp
      have gD1 := sp _ _ gD
      refine ⟨us, gD1, ?_, us ++ [.ref p], upd_same, ?_, fun b o e => (upd_ne (ne_of_none e hD)).trans (sp _ _ (sm _ _ e))⟩
      · rw [iF.len]
        unfold ones
        rw [List.length_map, List.length_take, sizeLine_eq]
        omega
      · have e : ones ((tl z).take (i + 1)) = ones ((tl z).take i) ++ [(false, one d)] := by
          unfold ones
          rw [List.take_add_one, hd', List.map_append]
          rfl
        rw [e]
        exact ((iF.mono (same_tup sp)).snoc ⟨p, rfl, SqT.of upd_same⟩).mono (upd_tup gD1)
    · rintro G ⟨us, gD, iF, sm⟩
      rw [zs, List.take_length] at iF
      refine ⟨D, us, rfl, .inl ⟨SqL.of gD, fun p hp => ?_⟩⟩
      have sp := same_upd (o := .tup us) hp
      exact k _ _ (sm.trans sp) ⟨p, us, rfl, SqT.of upd_same, iF.mono (same_tup sp)⟩
end
end DW
namespace DW
open PySem PySem.Spec PyProof.Rows L2 TL
set_option autoImplicit false
def spWords : Sp := fun vs H Q _ => ∃ (z : Str) (m : Int), vs = [.str z, .int m] ∧ Alph z ∧ 0 ≤ m ∧ m ≤ 4 ∧
  ∀ H' l (ws : List Str), Same H H' → H l = none → H' l = some (.lst (ws.map V.str)) → (∀ u ∈ ws, (tl u).length ≤ 4 ∧ OverW z u) → ws.length ≤ 200 → Q (.ref l) H'
section
variable {P : Program} {w : World} {K : PySem.W.Frag} {mg : Str → Option Value} {base : Heap}
theorem scWords : FnScope ["_law_alphabet_here", "_law_longest", "_law_found", "_law_last", "_law_k", "_law_longer", "_law_word", "_law_letter"] ["_law_alphabet_here", "_law_longest"] (defScope sLWords) := ⟨rfl, rfl, rfl, by decide +kernel, rfl, by decide +kernel, by decide +kernel⟩
theorem ok_words (D : Df K mg "_law_words" sLWords ["_law_alphabet_here", "_law_longest"]) (B : Bl mg) : FnOk P w K mg base CX0 1 D.f D.fd ["_law_alphabet_here", "_law_longest"] spWords := by
  refine D.F.ok scWords (fun vs H Q E h => ?_) (fun cdv A outer s H vs Q E hr h => ?_)
  · obtain ⟨z, m, rfl, _⟩ := h
    rfl
  · obtain ⟨z, m, rfl, al, m0, m4, k⟩ := h
    have zs : z.cps.size = (tl z).length := (Array.length_toList).symm
    refine ⟨_, PSs.nox (pss_cons (ps_par (i := 2) (j := 3) rfl scWords.nd rfl rfl (by decide) rfl rfl (pa_cons (pe_lst (pa_cons pe_str pa_nil)) (pa_cons (pe_lst (pa_cons pe_str pa_nil)) pa_nil)) (by rfl))
      (pss_cons (ps_for PassesOwn.never rfl (pi_range1 rfl B.range (pa_cons (pv 1) pa_nil)) (pg_name (i := 4) scWords.nd rfl (.inl rfl))
        (pss_cons (ps_set (i := 5) scWords.nd rfl (.inl rfl) (pe_lst pa_nil))
        (pss_cons (ps_for PassesOwn.never rfl (pi_list (pv 3)) (pg_name (i := 6) scWords.nd rfl (.inr rfl))
          (pss_one (ps_expr (pe_bm PySem.F.plainAttrs_list PySem.F.slot_list_extend PySem.F.type_list_extend mt_extend (pv 5) (pa_cons
            (pe_lc (own := [("_law_letter", 7)]) (g := gName 7) rfl scWords.nd (pi_str (pv 0)) (blkOk_by (N := ["_law_alphabet_here", "_law_longest", "_law_found", "_law_last", "_law_k", "_law_longer", "_law_word", "_law_letter"]) (sc := defScope sLWords) (by decide +kernel))
              (fun _ _ _ _ _ => pg_name (i := 7) scWords.nd rfl (Or.inl rfl)) (fun _ _ _ _ _ => pts_nil) (fun _ _ _ _ _ => pe_op op_add_str (pv 6) (pv 7))) pa_nil)))))
        (pss_one (ps_par (i := 2) (j := 3) rfl scWords.nd rfl rfl (by decide) rfl rfl (pa_cons (pe_op op_cat (pv 2) (pv 5)) (pa_cons (pv 5) pa_nil)) (by rfl))))))
      (pss_one (ps_ret (pv 2))))), ?_⟩
    refine ⟨by show 1 ≤ sizeLine; decide, fun l1 e1 => ⟨by show 1 ≤ sizeLine; decide, fun l2 e2 => ⟨_, _, rfl, ?_⟩⟩⟩
    have s1 := same_upd (o := .lst [V.str ""]) e1
    have s2 := same_upd (o := .lst [V.str ""]) e2
    have p81 : ∀ i : Nat, i ≤ 4 → 3 ^ i ≤ 81 := fun i hi => Nat.pow_le_pow_right (n := 3) (by decide) hi
    refine ⟨.int m, rfl, m, rfl, by omega, by omega, for_it (n := m.toNat) walk_range (fun i σ H' => ∃ (lf ll : Addr) (fw lw : List Str) (y4 y5 y6 : Option V), σ = [some (.str z), some (.int m), some (.ref lf), some (.ref ll), y4, y5, y6, none] ∧
      H' lf = some (.lst (fw.map V.str)) ∧ H' ll = some (.lst (lw.map V.str)) ∧ (∀ u ∈ lw, (tl u).length = i ∧ OverW z u) ∧ (∀ u ∈ fw, (tl u).length ≤ i ∧ OverW z u) ∧ lw.length ≤ 3 ^ i ∧ fw.length ≤ 2 * 3 ^ i ∧ Same H H' ∧ H lf = none)
      ⟨l1, l2, [""], [""], _, _, _, rfl, s2 _ _ upd_same, upd_same, ?_, ?_, by decide, by decide, s1.trans s2, e1⟩ (fun _ _ _ _ _ => trivial) ?_ ?_⟩
    · intro u hu
      rw [List.mem_singleton.mp hu]
      exact ⟨rfl, fun c hc => (nomatch hc)⟩
    · intro u hu
      rw [List.mem_singleton.mp hu]
      exact ⟨Nat.le_refl _, fun c hc => (nomatch hc)⟩
    · rintro i x σ G G' hi ⟨lf, ll, fw, lw, y4, y5, y6, rfl, gf, gl, hlw, hfw, cl, cf, sm, lf0⟩ ⟨rfl, rfl⟩
      have t81 := p81 i (by omega)
      refine ⟨Nat.zero_le _, fun g hg => ?_⟩
      have sg := same_upd (o := .lst []) hg
      have g0 : H g = none := sm.free hg
      have nfg : lf ≠ g := ne_of_none gf hg
      have nlg : ll ≠ g := ne_of_none gl hg
      refine ⟨.ref ll, rfl, ll, rfl, ⟨_, SqL.of (sg _ _ gl)⟩, for_it (walk_list (xs := lw.map V.str)) (fun j σ H' => ∃ (gw : List Str) (y6 : Option V), σ = [some (.str z), some (.int m), some (.ref lf), some (.ref ll), some (.int (0 + (i : Int))), some (.ref g), y6, none] ∧
        H' g = some (.lst (gw.map V.str)) ∧ H' lf = some (.lst (fw.map V.str)) ∧ H' ll = some (.lst (lw.map V.str)) ∧ (∀ u ∈ gw, (tl u).length = i + 1 ∧ OverW z u) ∧ gw.length ≤ 3 * j ∧ Same H H')
        ⟨[], _, rfl, upd_same, sg _ _ gf, sg _ _ gl, fun u hu => (nomatch hu), Nat.zero_le _, sm.trans sg⟩ (fun _ _ _ _ ⟨_, _, _, _, _, h, _⟩ => SqL.of h) ?_ ?_⟩
      · rintro j x σ G1 G2 hj ⟨gw, y6, rfl, g1, g2, g3, hgw, cg, sm1⟩ ⟨rfl, hx⟩
        rw [List.length_map] at hj
        obtain ⟨u, hu, rfl⟩ : ∃ u, lw[j]? = some u ∧ x = V.str u := by
          rw [List.getElem?_map] at hx
          cases q : lw[j]? with
          | none => rw [q] at hx; cases hx
          | some u => rw [q] at hx; exact ⟨u, rfl, (Option.some.inj hx).symm⟩
        have um := hlw u (List.mem_of_getElem? hu)
        refine ⟨.ref g, rfl, .inl ⟨rfl, _, SqL.of g1⟩, .str z, rfl, z, rfl, fun D hD => ?_⟩
        have sD := same_upd (o := .lst []) hD
        have nD1 : g ≠ D := ne_of_none g1 hD
        have nD2 : lf ≠ D := ne_of_none g2 hD
        have nD3 : ll ≠ D := ne_of_none g3 hD
        have D0 : H D = none := sm1.free hD
        refine lc_it walk_str (fun n H' => ∃ ds : List Str, H' D = some (.lst (ds.map V.str)) ∧ ds.length = n ∧ (∀ v ∈ ds, (tl v).length = i + 1 ∧ OverW z v) ∧ H' g = some (.lst (gw.map V.str)) ∧ H' lf = some (.lst (fw.map V.str)) ∧ H' ll = some (.lst (lw.map V.str)) ∧ Same H H') ?_ (fun _ _ _ _ => trivial) ?_ ?_
        · exact ⟨[], upd_same, rfl, fun v hv => (nomatch hv), sD _ _ g1, sD _ _ g2, sD _ _ g3, sm1.trans sD⟩
        · rintro n x G3 G4 hn ⟨ds, h1, dl, h2, h3, h4, h5, sm3⟩ ⟨rfl, d, hd, rfl⟩
          have dm : d ∈ tl z := List.mem_of_getElem? (i := n) (by rw [Array.getElem?_toList]; exact hd)
          refine ⟨rfl, yes ?_⟩
          refine ⟨_, rfl, _, rfl, u, ⟨#[d]⟩, rfl, rfl, ?_, _, h1, ?_, ds ++ [u ++ (⟨#[d]⟩ : Str)], by rw [upd_same, List.map_append]; rfl, by rw [List.length_append, dl]; rfl, fun v hv => ?_, (upd_ne nD1).trans h3, (upd_ne nD2).trans h4, (upd_ne nD3).trans h5, fun b o e => (upd_ne (ne_of_none e D0)).trans (sm3 _ _ e)⟩
          · have : u.length = i := by rw [← um.1]; exact (Array.length_toList).symm
            rw [this, sizeLine_eq]
            show i + 1 ≤ _
            omega
          · rw [List.length_map, dl, sizeLine_eq]
            have := al.2.2.1
            omega
          · rcases List.mem_append.mp hv with q | q
            · exact h2 v q
            · rw [List.mem_singleton.mp q]
              refine ⟨by rw [tl_app, List.length_append, um.1]; rfl, fun c hc => ?_⟩
              rw [tl_app] at hc
              rcases List.mem_append.mp hc with q | q
              · exact um.2 c q
              · rw [List.mem_singleton.mp q]
                exact dm
        · rintro G3 ⟨ds, h1, dl, h2, h3, h4, h5, sm3⟩
          have l3 := al.2.2.1
          refine ⟨g, D, _, _, rfl, rfl, h3, h1, ?_, gw ++ ds, _, rfl, by rw [upd_same, List.map_append], (upd_ne nfg).trans h4, (upd_ne nlg).trans h5, fun v hv => ?_, by rw [List.length_append, dl]; omega, fun b o e => (upd_ne (ne_of_none e g0)).trans (sm3 _ _ e)⟩
          · rw [List.length_map, List.length_map, dl, sizeLine_eq]
            omega
          · rcases List.mem_append.mp hv with q | q
            · exact hgw v q
            · exact h2 v q
      · rintro σ H' ⟨gw, y6, rfl, g1, g2, g3, hgw, cg, sm1⟩
        rw [List.length_map] at cg
        refine ⟨.ref lf, rfl, .ref g, rfl, lf, g, _, _, rfl, rfl, g2, g1, ?_, fun p hp => ⟨.ref g, rfl, _, _, rfl, ?_⟩⟩
        · rw [List.length_map, List.length_map, sizeLine_eq]
          omega
        have sp := same_upd (o := .lst (fw.map V.str ++ gw.map V.str)) hp
        refine ⟨p, g, fw ++ gw, gw, _, _, _, rfl, by rw [upd_same, List.map_append], sp _ _ g1, hgw, fun v hv => ?_, ?_, ?_, sm1.trans sp, sm1.free hp⟩
        · rcases List.mem_append.mp hv with q | q
          · exact ⟨Nat.le_succ_of_le (hfw v q).1, (hfw v q).2⟩
          · exact ⟨Nat.le_of_eq (hgw v q).1, (hgw v q).2⟩
        · rw [Nat.pow_succ]
          omega
        · rw [List.length_append, Nat.pow_succ]
          omega
    · rintro σ H' ⟨lf, ll, fw, lw, y4, y5, y6, rfl, gf, gl, hlw, hfw, cl, cf, sm, lf0⟩
      have t81 := p81 m.toNat (by omega)
      exact ⟨_, rfl, k _ lf fw sm lf0 gf (fun u hu => ⟨Nat.le_trans (hfw u hu).1 (by omega), (hfw u hu).2⟩) (by omega)⟩
end
end DW
namespace DW
open PySem PySem.Spec PyProof.Rows L2 TL
set_option autoImplicit false
theorem rep_mono (L : List Nat) {a b : Nat} (h : a ≤ b) : ((List.replicate a L).flatten).Sublist (List.replicate b L).flatten := by
  obtain ⟨k, rfl⟩ : ∃ k, b = a + k := ⟨b - a, by omega⟩
  rw [← List.replicate_append_replicate, List.flatten_append]
  exact List.sublist_append_left _ _
theorem unf_mono {a b : Nat} (h : a ≤ b) : ∀ fs : List Fc, (unf fs a).Sublist (unf fs b)
  | [] => List.Sublist.refl _
  | f :: fs => by
    show (piece a f ++ unf fs a).Sublist (piece b f ++ unf fs b)
    refine List.Sublist.append ?_ (unf_mono h fs)
    unfold piece
    by_cases e : f.1 = true
    · rw [if_pos e, if_pos e]
      exact rep_mono _ h
    · rw [if_neg e, if_neg e]
      exact List.Sublist.refl _
theorem over_unf {z : Str} {fs : List Fc} (ok : ∀ f ∈ fs, FOk z f) {m : Nat} {c : Nat} (hc : c ∈ unf fs m) : c ∈ tl z := by
  unfold unf at hc
  obtain ⟨l, hl, hc⟩ := List.mem_flatten.mp hc
  obtain ⟨f, hf, rfl⟩ := List.mem_map.mp hl
  refine (ok f hf).2.1.subset ?_
  unfold piece at hc
  by_cases e : f.1 = true
  · rw [if_pos e] at hc
    obtain ⟨l, hl, hc⟩ := List.mem_flatten.mp hc
    rw [List.eq_of_mem_replicate hl] at hc
    exact hc
  · rw [if_neg e] at hc
    exact hc
/-! ### lists of products -/
def pD (fs : List Fc) : PyData := .tuple (fs.map fD)
theorem IsFs.dp {K : PySem.W.Frag} {H : Hp} : ∀ {vs : List V} {fs : List Fc}, IsFs K H vs fs → DpAll K H vs (fs.map fD)
  | _, _, .nil => .nil
  | _, _, .cons h r => .cons h.dp r.dp
theorem IsP.dp {K : PySem.W.Frag} {H : Hp} {v : V} {fs : List Fc} (h : IsP K H v fs) : Dp K H v (pD fs) := by
  obtain ⟨a, xs, rfl, q, r⟩ := h
  exact .tup q r.dp
structure GoodP (K : PySem.W.Frag) (H : Hp) (z : Str) (v : V) (q : List Fc) : Prop where
  isp : IsP K H v q
  ok : ∀ f ∈ q, FOk z f
  len : q.length ≤ 6
inductive IsPs (K : PySem.W.Frag) (H : Hp) (z : Str) : List V → List (List Fc) → Prop where
  | nil : IsPs K H z [] []
  | cons {v : V} {f : List Fc} {vs : List V} {fs : List (List Fc)} (h : GoodP K H z v f) (r : IsPs K H z vs fs) : IsPs K H z (v :: vs) (f :: fs)
section
variable {K : PySem.W.Frag} {H H' : Hp} {z : Str}
theorem IsPs.snoc {v : V} {f : List Fc} : ∀ {vs : List V} {fs : List (List Fc)}, IsPs K H z vs fs → GoodP K H z v f → IsPs K H z (vs ++ [v]) (fs ++ [f])
  | _, _, .nil, h => .cons h .nil
  | _, _, .cons a r, h => .cons a (r.snoc h)
theorem IsPs.len : ∀ {vs : List V} {fs : List (List Fc)}, IsPs K H z vs fs → vs.length = fs.length
  | _, _, .nil => rfl
  | _, _, .cons _ r => by rw [List.length_cons, List.length_cons, r.len]
theorem IsPs.get : ∀ {vs : List V} {fs : List (List Fc)}, IsPs K H z vs fs → ∀ (i : Nat) (v : V), vs[i]? = some v → ∃ f, fs[i]? = some f ∧ GoodP K H z v f
  | _, _, .nil, i, v, h => by simp at h
  | _, _, .cons a r, 0, v, h => by
    have e := Option.some.inj h
    subst e
    exact ⟨_, rfl, a⟩
  | _, _, .cons a r, i + 1, v, h => r.get i v h
theorem GoodP.mono {v : V} {q : List Fc} (m : ∀ b xs, SqT K H b xs → SqT K H' b xs) (g : GoodP K H z v q) : GoodP K H' z v q := ⟨g.isp.mono m, g.ok, g.len⟩
theorem IsPs.mono (m : ∀ b xs, SqT K H b xs → SqT K H' b xs) : ∀ {vs : List V} {fs : List (List Fc)}, IsPs K H z vs fs → IsPs K H' z vs fs
  | _, _, .nil => .nil
  | _, _, .cons a r => .cons (a.mono m) (r.mono m)
theorem IsPs.dp : ∀ {vs : List V} {fs : List (List Fc)}, IsPs K H z vs fs → DpAll K H vs (fs.map pD)
  | _, _, .nil => .nil
  | _, _, .cons h r => .cons h.isp.dp r.dp
end
theorem lay_fs {z : Str} (al : Alph z) : ∀ fs : List Fc, (∀ f ∈ fs, FOk z f) → PyData.canLayAll0 (fs.map fD) = true ∧ PyData.depthAll (fs.map fD) ≤ 1
  | [], _ => ⟨rfl, by simp [PyData.depthAll]⟩
  | f :: fs, h => by
    obtain ⟨h1, h2⟩ := lay_fs al fs fun g hg => h g (List.mem_cons_of_mem _ hg)
    have hf := fD_shaped (fok_low al (h f List.mem_cons_self))
    unfold SeqAt.shaped at hf
    rw [Bool.and_eq_true] at hf
    have d1 : (fD f).depth ≤ 1 := by simp [fD, PyData.depth, PyData.depthAll]
    rw [List.map_cons]
    refine ⟨by simp only [PyData.canLayAll0, hf.1, h1, Bool.and_self], ?_⟩
    simp only [PyData.depthAll]
    omega
theorem lay_ps {z : Str} (al : Alph z) : ∀ qs : List (List Fc), (∀ q ∈ qs, ∀ f ∈ q, FOk z f) → PyData.canLayAll0 (qs.map pD) = true ∧ PyData.depthAll (qs.map pD) ≤ 2
  | [], _ => ⟨rfl, by simp [PyData.depthAll]⟩
  | q :: qs, h => by
    obtain ⟨h1, h2⟩ := lay_ps al qs fun g hg => h g (List.mem_cons_of_mem _ hg)
    obtain ⟨h3, h4⟩ := lay_fs al q (h q List.mem_cons_self)
    rw [List.map_cons]
    refine ⟨by simp only [PyData.canLayAll0, pD, PyData.canLay0, h3, h1, Bool.and_self], ?_⟩
    simp only [PyData.depthAll, pD, PyData.depth]
    omega
theorem ps_shaped {z : Str} (al : Alph z) {qs : List (List Fc)} (h : ∀ q ∈ qs, ∀ f ∈ q, FOk z f) : SeqAt.shaped (.list (qs.map pD)) = true := by
  obtain ⟨h1, h2⟩ := lay_ps al qs h
  unfold SeqAt.shaped
  rw [Bool.and_eq_true]
  refine ⟨by simp only [PyData.canLay0, h1], decide_eq_true ?_⟩
  simp only [PyData.depth]
  omega
theorem nil_shaped : SeqAt.shaped (.list []) = true := by decide +kernel
theorem eqv_nil (ds : List PyData) : PyData.eqv (.list ds) (.list []) = ds.isEmpty := by
  cases ds <;> simp [PyData.eqv, PyData.eqvAll]
theorem IsPs.oks {K : PySem.W.Frag} {H : Hp} {z : Str} : ∀ {vs : List V} {fs : List (List Fc)}, IsPs K H z vs fs → ∀ q ∈ fs, (∀ f ∈ q, FOk z f) ∧ q.length ≤ 6
  | _, _, .nil, q, h => (nomatch h)
  | _, _, .cons a r, q, h => by
    rcases List.mem_cons.mp h with e | e
    · rw [e]
      exact ⟨a.ok, a.len⟩
    · exact r.oks q e
/-! ### slices and sums of tuples -/
theorem sl_any {K : PySem.W.Frag} {H : Hp} {a : Addr} {xs : List V} {lo hi : Option Int} {Q : VK} (ha : SqT K H a xs) (k : ∀ H' a', Same H H' → SqT K H' a' (cutV xs lo hi) → Q (.ref a') H') : rSlA K (.ref a) lo hi H Q := by
  refine ⟨a, xs, rfl, ha, fun h => k H a (Same.refl _) ?_, fun _ p hp => k _ p (same_upd hp) (SqT.of upd_same)⟩
  have e : cutV xs lo hi = xs := by
    unfold cutV
    rw [h.1, h.2, List.drop_zero, Nat.sub_zero, List.take_length]
  rw [e]
  exact ha
theorem cat_any {K : PySem.W.Frag} {H : Hp} {a b : Addr} {xs ys : List V} {Q : VK} (ha : SqT K H a xs) (hb : SqT K H b ys) (hl : xs.length + ys.length ≤ sizeLine) (k : ∀ H' a', Same H H' → SqT K H' a' (xs ++ ys) → Q (.ref a') H') : rCatA K (.ref a) (.ref b) H Q := by
  refine ⟨a, b, xs, ys, rfl, rfl, ha, hb, hl, fun h => k H b (Same.refl _) ?_, fun _ h => k H a (Same.refl _) ?_, fun _ _ p hp => k _ p (same_upd hp) (SqT.of upd_same)⟩
  · rw [h]
    exact hb
  · rw [h, List.append_nil]
    exact ha
theorem cut_take (xs : List V) {k : Int} (h0 : 0 ≤ k) (h : k ≤ xs.length) : cutV xs none (some k) = xs.take k.toNat := by
  obtain ⟨n, rfl⟩ := Int.eq_ofNat_of_zero_le h0
  unfold cutV
  rw [HT.sIx_none, HT.sIx_nat, List.drop_zero, Nat.sub_zero, Nat.min_eq_left (by omega)]
  rfl
theorem cut_drop (xs : List V) {k : Int} (h0 : 0 ≤ k) : cutV xs (some k) none = xs.drop k.toNat := by
  obtain ⟨n, rfl⟩ := Int.eq_ofNat_of_zero_le h0
  unfold cutV
  rw [HT.sIx_none, HT.sIx_nat]
  show List.take _ (List.drop (min n xs.length) xs) = xs.drop n
  by_cases c : n ≤ xs.length
  · rw [Nat.min_eq_left c]
    exact List.take_of_length_le (by rw [List.length_drop]; omega)
  · rw [Nat.min_eq_right (by omega), List.drop_length, List.drop_of_length_le (by omega), List.take_nil]
theorem IsFs.app {K : PySem.W.Frag} {H : Hp} : ∀ {vs us : List V} {fs gs : List Fc}, IsFs K H vs fs → IsFs K H us gs → IsFs K H (vs ++ us) (fs ++ gs)
  | _, _, _, _, .nil, h => h
  | _, _, _, _, .cons a r, h => .cons a (r.app h)
theorem IsFs.take {K : PySem.W.Frag} {H : Hp} : ∀ {vs : List V} {fs : List Fc} (n : Nat), IsFs K H vs fs → IsFs K H (vs.take n) (fs.take n)
  | _, _, 0, _ => .nil
  | _, _, _ + 1, .nil => .nil
  | _, _, n + 1, .cons a r => .cons a (r.take n)
theorem IsFs.drop {K : PySem.W.Frag} {H : Hp} : ∀ {vs : List V} {fs : List Fc} (n : Nat), IsFs K H vs fs → IsFs K H (vs.drop n) (fs.drop n)
  | _, _, 0, h => h
  | _, _, _ + 1, .nil => .nil
  | _, _, n + 1, .cons a r => r.drop n
end DW
/-! lists of texts, of numbers, and products as data -/
namespace DW
open PySem PySem.Spec PyProof.Rows L2 TL
set_option autoImplicit false
def strD (ws : List Str) : PyData := .list (ws.map PyData.str)
theorem str_dpAll {K : PySem.W.Frag} {H : Hp} : ∀ ws : List Str, DpAll K H (ws.map V.str) (ws.map PyData.str)
  | [] => .nil
  | x :: r => .cons (.str _) (str_dpAll r)
theorem str_dp {K : PySem.W.Frag} {H : Hp} {a : Addr} {ws : List Str} (h : SqL K H a (ws.map V.str)) : Dp K H (.ref a) (strD ws) := .lst h (str_dpAll ws)
theorem str_ok : ∀ (ws : List Str), (∀ u ∈ ws, (tl u).length ≤ 20 ∧ ∀ c ∈ tl u, c < 128) → PyData.canLayAll0 (ws.map PyData.str) = true ∧ PyData.depthAll (ws.map PyData.str) = 0 ∧ PyData.weightAll (ws.map PyData.str) ≤ 21 * ws.length ∧
    PyData.showableAll (ws.map PyData.str) = true ∧ PyData.hasDictAll (ws.map PyData.str) = false ∧ PyData.intsShortAll 13 (ws.map PyData.str) = true
  | [], _ => ⟨rfl, rfl, Nat.le_refl _, rfl, rfl, rfl⟩
  | u :: r, h => by
    obtain ⟨h1, h2, h3, h4, h5, h6⟩ := str_ok r fun q hq => h q (List.mem_cons_of_mem _ hq)
    obtain ⟨ul, uc⟩ := h u List.mem_cons_self
    have us : u.cps.size = (tl u).length := (Array.length_toList).symm
    have so : PyData.strOk u = true := by
      unfold PyData.strOk
      rw [Array.all_eq_true]
      intro i hi
      have := uc u.cps[i] (by show u.cps[i] ∈ u.cps.toList; rw [Array.mem_toList_iff]; exact Array.getElem_mem hi)
      exact decide_eq_true (by omega)
    rw [List.map_cons]
    refine ⟨by simp only [PyData.canLayAll0, PyData.canLay0, so, h1, Bool.and_self], by simp only [PyData.depthAll, PyData.depth, h2]; rfl, ?_, by simp only [PyData.showableAll, PyData.showable, h4, Bool.and_self], by simp only [PyData.hasDictAll, PyData.hasDict, h5, Bool.or_self], by simp only [PyData.intsShortAll, PyData.intsShort, h6, Bool.and_self]⟩
    simp only [PyData.weightAll, PyData.weight, List.length_cons]
    omega
theorem str_shaped {ws : List Str} (h : ∀ u ∈ ws, (tl u).length ≤ 20 ∧ ∀ c ∈ tl u, c < 128) : SeqAt.shaped (strD ws) = true := by
  obtain ⟨h1, h2, _⟩ := str_ok ws h
  unfold SeqAt.shaped strD
  rw [Bool.and_eq_true]
  exact ⟨by simp only [PyData.canLay0, h1], decide_eq_true (by simp only [PyData.depth, h2]; omega)⟩
theorem str_eqv {ws : List Str} (h : ∀ u ∈ ws, (tl u).length ≤ 20 ∧ ∀ c ∈ tl u, c < 128) : PyData.eqv (strD ws) (strD ws) = true := by
  obtain ⟨h1, _⟩ := str_ok ws h
  exact PySem.SeqAt.eqv_refl _ (by unfold strD; simp only [PyData.canLay0, h1])
theorem str_eqv_nil (ws : List Str) : PyData.eqv (strD ws) (.list []) = ws.isEmpty := by
  unfold strD
  cases ws <;> simp [PyData.eqv, PyData.eqvAll]
theorem nat_uniq : ∀ (l m : List Nat), l.Pairwise (· < ·) → m.Pairwise (· < ·) → (∀ k, k ∈ l ↔ k ∈ m) → l = m
  | [], [], _, _, _ => rfl
  | [], b :: m, _, _, h => by
    have := (h b).mpr List.mem_cons_self
    cases this
  | a :: l, [], _, _, h => by
    have := (h a).mp List.mem_cons_self
    cases this
  | a :: l, b :: m, p, q, h => by
    obtain ⟨pa, p'⟩ := List.pairwise_cons.mp p
    obtain ⟨qb, q'⟩ := List.pairwise_cons.mp q
    have ab : a = b := by
      rcases List.mem_cons.mp ((h a).mp List.mem_cons_self) with e | e
      · exact e
      · rcases List.mem_cons.mp ((h b).mpr List.mem_cons_self) with f | f
        · exact f.symm
        · have h1 := pa b f
          have h2 := qb a e
          omega
    subst ab
    have e := nat_uniq l m p' q' fun k => by
      constructor
      · intro hk
        rcases List.mem_cons.mp ((h k).mp (List.mem_cons_of_mem _ hk)) with e | e
        · have := pa k hk
          omega
        · exact e
      · intro hk
        rcases List.mem_cons.mp ((h k).mpr (List.mem_cons_of_mem _ hk)) with e | e
        · have := qb k hk
          omega
        · exact e
    rw [e]
theorem ones_ok {cs : List Nat} (h : ∀ c ∈ cs, c < 128) : ∀ u ∈ cs.map one, (tl u).length ≤ 20 ∧ ∀ c ∈ tl u, c < 128 := fun u hu => by
  obtain ⟨c, hc, rfl⟩ := List.mem_map.mp hu
  rw [tl_one]
  exact ⟨by show 1 ≤ 20; decide, fun d hd => by rw [List.mem_singleton.mp hd]; exact h c hc⟩
def intD (ns : List Int) : PyData := .list (ns.map PyData.int)
theorem int_dpAll {K : PySem.W.Frag} {H : Hp} : ∀ ns : List Int, DpAll K H (ns.map V.int) (ns.map PyData.int)
  | [] => .nil
  | x :: r => .cons (.int _) (int_dpAll r)
theorem int_dp {K : PySem.W.Frag} {H : Hp} {a : Addr} {ns : List Int} (h : SqL K H a (ns.map V.int)) : Dp K H (.ref a) (intD ns) := .lst h (int_dpAll ns)
theorem int_ok : ∀ ns : List Int, PyData.canLayAll0 (ns.map PyData.int) = true ∧ PyData.depthAll (ns.map PyData.int) = 0
  | [] => ⟨rfl, rfl⟩
  | x :: r => by
    obtain ⟨h1, h2⟩ := int_ok r
    rw [List.map_cons]
    exact ⟨by simp only [PyData.canLayAll0, PyData.canLay0, h1, Bool.and_self], by simp only [PyData.depthAll, PyData.depth, h2]; rfl⟩
theorem int_shaped (ns : List Int) : SeqAt.shaped (intD ns) = true := by
  obtain ⟨h1, h2⟩ := int_ok ns
  unfold SeqAt.shaped intD
  rw [Bool.and_eq_true]
  exact ⟨by simp only [PyData.canLay0, h1], decide_eq_true (by simp only [PyData.depth, h2]; omega)⟩
theorem int_eqv_nil (ns : List Int) : PyData.eqv (intD ns) (.list []) = ns.isEmpty := by
  unfold intD
  cases ns <;> simp [PyData.eqv, PyData.eqvAll]
theorem fs_eqv : ∀ fs gs : List Fc, PyData.eqvAll (fs.map fD) (gs.map fD) = decide (fs = gs)
  | [], [] => rfl
  | [], _ :: _ => by simp [PyData.eqvAll]
  | _ :: _, [] => by simp [PyData.eqvAll]
  | f :: fs, g :: gs => by
    rw [List.map_cons, List.map_cons]
    simp only [PyData.eqvAll]
    rw [fD_eqv, fs_eqv fs gs, Bool.eq_iff_iff]
    simp
theorem pD_eqv (fs gs : List Fc) : PyData.eqv (pD fs) (pD gs) = decide (fs = gs) := by
  unfold pD
  simp only [PyData.eqv]
  exact fs_eqv fs gs
theorem pD_shaped {z : Str} (al : Alph z) {fs : List Fc} (h : ∀ f ∈ fs, FOk z f) : SeqAt.shaped (pD fs) = true := by
  obtain ⟨h1, h2⟩ := lay_fs al fs h
  unfold SeqAt.shaped pD
  rw [Bool.and_eq_true]
  refine ⟨by simp only [PyData.canLay0, h1], decide_eq_true ?_⟩
  simp only [PyData.depth]
  omega
theorem atI_of {α : Type} {xs : List α} {i : Int} {j : Nat} {v : α} (e : i = (j : Int)) (h : xs[j]? = some v) : atI xs i = some v := by
  rw [e]
  exact atI_nat h
end DW
/-! reduced products: the stack, its words, and what put-in factors do to it -/
namespace DW
open PySem PySem.Spec PyProof.Rows L2 TL
set_option autoImplicit false
/-- the kept factors, the last one first, after one factor more -/
def stp (st : List Fc) (f : Fc) : List Fc := match st.dropWhile (sw f) with
  | [] => [f]
  | g :: r => if sw g f = true then g :: r else f :: g :: r
def red (fs : List Fc) : List Fc := (fs.foldl stp []).reverse
/-! ### words -/
theorem Lg.in_one {g : Fc} {u : List Nat} (h : Lg [g] u) : ∀ c ∈ u, c ∈ ls g := by
  intro c hc
  obtain ⟨a, b, rfl⟩ := List.append_of_mem hc
  obtain ⟨g', hg, q⟩ := (Lg.drop h).has
  rw [List.mem_singleton.mp hg] at q
  exact q
theorem sw_star {g f : Fc} (h : sw g f = true) : g.1 = true := (Bool.and_eq_true_iff.mp h).1
theorem sw_sub {g f : Fc} (h : sw g f = true) : ∀ c ∈ ls f, c ∈ ls g := fun c hc => of_decide_eq_true (List.all_eq_true.mp (Bool.and_eq_true_iff.mp h).2 c hc)
theorem sw_of {g f : Fc} (k : g.1 = true) (h : ∀ c ∈ ls f, c ∈ ls g) : sw g f = true := Bool.and_eq_true_iff.mpr ⟨k, List.all_eq_true.mpr fun c hc => decide_eq_true (h c hc)⟩
theorem sw_trans {g s m : Fc} (h : sw g s = true) (k : sw s m = true) : sw g m = true := sw_of (sw_star h) fun c hc => sw_sub h c (sw_sub k c hc)
theorem lg_cong {a b x y : List Fc} (h : ∀ u, Lg x u ↔ Lg y u) (w : List Nat) : Lg (a ++ (x ++ b)) w ↔ Lg (a ++ (y ++ b)) w := by
  constructor
  · intro q
    obtain ⟨u, v, rfl, h1, h2⟩ := q.split
    obtain ⟨u', v', rfl, h3, h4⟩ := h2.split
    exact h1.app (((h u').mp h3).app h4)
  · intro q
    obtain ⟨u, v, rfl, h1, h2⟩ := q.split
    obtain ⟨u', v', rfl, h3, h4⟩ := h2.split
    exact h1.app (((h u').mpr h3).app h4)
theorem lg_front {f g : Fc} (h : sw f g = true) (u : List Nat) : Lg [g, f] u ↔ Lg [f] u := by
  constructor
  · intro q
    obtain ⟨a, b, rfl, h1, h2⟩ := Lg.split (fs := [g]) (gs := [f]) q
    rw [Lg.one_star (sw_star h)] at h2 ⊢
    intro c hc
    rcases List.mem_append.mp hc with z | z
    · exact sw_sub h c (h1.in_one c z)
    · exact h2 c z
  · intro q
    exact .skip q
theorem lg_back {f g : Fc} (h : sw g f = true) (u : List Nat) : Lg [g, f] u ↔ Lg [g] u := by
  constructor
  · intro q
    obtain ⟨a, b, rfl, h1, h2⟩ := Lg.split (fs := [g]) (gs := [f]) q
    rw [Lg.one_star (sw_star h)] at h1 ⊢
    intro c hc
    rcases List.mem_append.mp hc with z | z
    · exact h1 c z
    · exact sw_sub h c (h2.in_one c z)
  · intro q
    have := q.app (Lg.empty [f])
    rw [List.append_nil] at this
    exact this
theorem lg_drop (f : Fc) (b : List Fc) (w : List Nat) : ∀ st : List Fc, Lg (st.reverse ++ ([f] ++ b)) w ↔ Lg ((st.dropWhile (sw f)).reverse ++ ([f] ++ b)) w
  | [] => Iff.rfl
  | g :: st => by
    rw [List.dropWhile_cons]
    by_cases h : sw f g = true
    · rw [if_pos h, ← lg_drop f b w st, List.reverse_cons, List.append_assoc]
      have := lg_cong (a := st.reverse) (b := b) (lg_front h) w
      exact this
    · rw [if_neg h]
theorem stp_lg (f : Fc) (b st : List Fc) (w : List Nat) : Lg (st.reverse ++ (f :: b)) w ↔ Lg ((stp st f).reverse ++ b) w := by
  have e := lg_drop f b w st
  rw [show ([f] ++ b) = f :: b from rfl] at e
  rw [e]
  unfold stp
  cases q : st.dropWhile (sw f) with
  | nil => exact Iff.rfl
  | cons g r =>
    show _ ↔ Lg ((if sw g f = true then g :: r else f :: g :: r).reverse ++ b) w
    by_cases h : sw g f = true
    · rw [if_pos h, List.reverse_cons, List.append_assoc, List.append_assoc]
      exact lg_cong (a := r.reverse) (b := b) (lg_back h) w
    · rw [if_neg h]
      simp
theorem fold_lg (w : List Nat) : ∀ (fs st : List Fc), Lg (st.reverse ++ fs) w ↔ Lg (fs.foldl stp st).reverse w
  | [], st => by rw [List.append_nil]; rfl
  | f :: fs, st => by
    rw [stp_lg f fs st w]
    exact fold_lg w fs (stp st f)
theorem red_lg (fs : List Fc) (w : List Nat) : Lg fs w ↔ Lg (red fs) w := fold_lg w fs []
/-! ### neighbours -/
def Apart : List Fc → Prop
  | [] => True
  | [_] => True
  | f :: g :: r => sw f g = false ∧ sw g f = false ∧ Apart (g :: r)
theorem Apart.tail {f : Fc} {r : List Fc} (h : Apart (f :: r)) : Apart r := by
  cases r with
  | nil => trivial
  | cons g r => exact h.2.2
theorem Apart.dw (p : Fc → Bool) : ∀ {st : List Fc}, Apart st → Apart (st.dropWhile p)
  | [], _ => trivial
  | g :: st, h => by
    rw [List.dropWhile_cons]
    by_cases q : p g = true
    · rw [if_pos q]
      exact Apart.dw p h.tail
    · rw [if_neg q]
      exact h
theorem dw_top {p : Fc → Bool} : ∀ {st r : List Fc} {g : Fc}, st.dropWhile p = g :: r → p g = false
  | [], _, _, h => by cases h
  | x :: st, r, g, h => by
    rw [List.dropWhile_cons] at h
    by_cases q : p x = true
    · rw [if_pos q] at h
      exact dw_top h
    · rw [if_neg q] at h
      rw [← (List.cons.inj h).1]
      simpa using q
theorem stp_apart {st : List Fc} {f : Fc} (h : Apart st) : Apart (stp st f) := by
  unfold stp
  have h' := h.dw (sw f)
  cases q : st.dropWhile (sw f) with
  | nil => trivial
  | cons g r =>
    rw [q] at h'
    show Apart (if sw g f = true then g :: r else f :: g :: r)
    by_cases k : sw g f = true
    · rw [if_pos k]
      exact h'
    · rw [if_neg k]
      exact ⟨dw_top q, by simpa using k, h'⟩
theorem fold_apart : ∀ (fs st : List Fc), Apart st → Apart (fs.foldl stp st)
  | [], _, h => h
  | f :: fs, st, h => fold_apart fs (stp st f) (stp_apart h)
theorem stp_push {f : Fc} {r : List Fc} (h : Apart (f :: r)) : stp r f = f :: r := by
  unfold stp
  cases r with
  | nil => rfl
  | cons g r =>
    rw [List.dropWhile_cons, if_neg (by rw [h.1]; simp)]
    show (if sw g f = true then _ else _) = _
    rw [if_neg (by rw [h.2.1]; simp)]
theorem fold_rev : ∀ l : List Fc, Apart l → l.reverse.foldl stp [] = l
  | [], _ => rfl
  | f :: r, h => by
    rw [List.reverse_cons, List.foldl_append, fold_rev r h.tail]
    exact stp_push h
theorem red_red (fs : List Fc) : red (red fs) = red fs := by
  unfold red
  rw [fold_rev _ (fold_apart fs [] trivial)]
/-! ### factors put in -/
theorem dw_dw {p q : Fc → Bool} (h : ∀ x, p x = true → q x = true) : ∀ l : List Fc, (l.dropWhile p).dropWhile q = l.dropWhile q
  | [] => rfl
  | x :: l => by
    rw [List.dropWhile_cons (p := p)]
    by_cases k : p x = true
    · rw [if_pos k, dw_dw h l, List.dropWhile_cons, if_pos (h x k)]
    · rw [if_neg k]
theorem pad_front {s m : Fc} (h : sw s m = true) (st : List Fc) : stp (stp st m) s = stp st s := by
  have e : (stp st m).dropWhile (sw s) = st.dropWhile (sw s) := by
    have d := dw_dw (p := sw m) (q := sw s) (fun x hx => sw_trans h hx) st
    rw [← d]
    unfold stp
    cases q : st.dropWhile (sw m) with
    | nil =>
      show [m].dropWhile (sw s) = _
      rw [List.dropWhile_cons, if_pos h]
    | cons g r =>
      show (if sw g m = true then g :: r else m :: g :: r).dropWhile (sw s) = _
      by_cases k : sw g m = true
      · rw [if_pos k]
      · rw [if_neg k, List.dropWhile_cons, if_pos h]
  unfold stp at e ⊢
  rw [e]
theorem pad_back {s m : Fc} {st : List Fc} (h : sw s m = true) (ha : Apart st) (anti : ∀ x ∈ stp st s, sw m x = true → sw x m = true → m = x) : stp (stp st s) m = stp st s := by
  have hA : Apart (stp st s) := stp_apart ha
  obtain ⟨g, r, e, k⟩ : ∃ g r, stp st s = g :: r ∧ sw g m = true := by
    unfold stp
    cases q : st.dropWhile (sw s) with
    | nil => exact ⟨s, [], rfl, h⟩
    | cons g r =>
      by_cases k : sw g s = true
      · exact ⟨g, r, if_pos k, sw_trans k h⟩
      · exact ⟨s, g :: r, if_neg k, h⟩
  rw [e] at hA anti ⊢
  by_cases q : sw m g = true
  · have em := anti g List.mem_cons_self q k
    subst em
    have e2 : stp (m :: r) m = stp r m := by
      unfold stp
      rw [List.dropWhile_cons, if_pos q]
    rw [e2]
    exact stp_push hA
  · unfold stp
    rw [List.dropWhile_cons, if_neg q]
    show (if sw g m = true then _ else _) = _
    rw [if_pos k]
theorem red_front {s m : Fc} (h : sw s m = true) (a b : List Fc) : red (a ++ m :: s :: b) = red (a ++ s :: b) := by
  unfold red
  rw [List.foldl_append, List.foldl_append]
  show (b.foldl stp (stp (stp (a.foldl stp []) m) s)).reverse = _
  rw [pad_front h]
  rfl
theorem red_back {s m : Fc} (h : sw s m = true) (a b : List Fc) (anti : ∀ x ∈ stp (a.foldl stp []) s, sw m x = true → sw x m = true → m = x) : red (a ++ s :: m :: b) = red (a ++ s :: b) := by
  unfold red
  rw [List.foldl_append, List.foldl_append]
  show (b.foldl stp (stp (stp (a.foldl stp []) s) m)).reverse = _
  rw [pad_back h (fold_apart a [] trivial) anti]
  rfl
/-! ### nothing new is kept -/
theorem stp_mem {f : Fc} {st : List Fc} {x : Fc} (h : x ∈ stp st f) : x = f ∨ x ∈ st := by
  unfold stp at h
  have dm : ∀ y, y ∈ st.dropWhile (sw f) → y ∈ st := fun y hy => (List.dropWhile_sublist _).subset hy
  cases q : st.dropWhile (sw f) with
  | nil =>
    rw [q] at h
    exact .inl (List.mem_singleton.mp h)
  | cons g r =>
    rw [q] at h dm
    have h' : x ∈ (if sw g f = true then g :: r else f :: g :: r) := h
    by_cases k : sw g f = true
    · rw [if_pos k] at h'
      exact .inr (dm x h')
    · rw [if_neg k] at h'
      rcases List.mem_cons.mp h' with z | z
      · exact .inl z
      · exact .inr (dm x z)
theorem fold_mem : ∀ (fs st : List Fc) (x : Fc), x ∈ fs.foldl stp st → x ∈ fs ∨ x ∈ st
  | [], _, _, h => .inr h
  | f :: fs, st, x, h => by
    rcases fold_mem fs (stp st f) x h with q | q
    · exact .inl (List.mem_cons_of_mem _ q)
    · rcases stp_mem q with z | z
      · exact .inl (z ▸ List.mem_cons_self)
      · exact .inr z
theorem red_mem {fs : List Fc} {x : Fc} (h : x ∈ red fs) : x ∈ fs := by
  rcases fold_mem fs [] x (List.mem_reverse.mp h) with q | q
  · exact q
  · cases q
end DW
/-! reduce_product -/
namespace DW
open PySem PySem.Spec PyProof.Rows L2 TL
set_option autoImplicit false
def spRd (K : PySem.W.Frag) : Sp := fun vs H Q _ => ∃ (v : V) (fs : List Fc), vs = [v] ∧ IsP K H v fs ∧ (∀ f ∈ fs, (ls f).length ≤ 1000) ∧ fs.length ≤ 100000 ∧ ∀ H' u, Same H H' → IsP K H' u (red fs) → Q u H'
theorem IsFs.unsnoc {K : PySem.W.Frag} {H : Hp} {g : Fc} : ∀ {fs : List Fc} {vs : List V}, IsFs K H vs (fs ++ [g]) → ∃ us v, vs = us ++ [v] ∧ IsFs K H us fs ∧ IsF K H v g := by
  intro fs
  induction fs with
  | nil =>
    intro vs h
    have h' : IsFs K H vs (g :: []) := h
    cases h' with
    | cons a r =>
      cases r
      exact ⟨[], _, rfl, .nil, a⟩
  | cons f fs ih =>
    intro vs h
    have h' : IsFs K H vs (f :: (fs ++ [g])) := h
    cases h' with
    | cons a r =>
      obtain ⟨us, v, e, h1, h2⟩ := ih r
      exact ⟨_ :: us, v, by rw [e]; rfl, .cons a h1, h2⟩
theorem stp_len (st : List Fc) (f : Fc) : (stp st f).length ≤ st.length + 1 := by
  have h := (List.dropWhile_suffix (l := st) (sw f)).length_le
  unfold stp
  split
  · simp
  · rename_i g r e
    rw [e] at h
    by_cases c : sw g f = true
    · rw [if_pos c]
      omega
    · rw [if_neg c, List.length_cons]
      omega
theorem dw_mem {p : Fc → Bool} {st : List Fc} {g : Fc} {r : List Fc} (e : st.dropWhile p = g :: r) : g ∈ st := (List.dropWhile_suffix (l := st) p).subset (by rw [e]; exact List.mem_cons_self)
section
variable {P : Program} {w : World} {K : PySem.W.Frag} {mg : Str → Option Value} {base : Heap}
theorem scRd : FnScope ["product", "kept", "factor"] ["product"] (defScope sReduceProduct) := ⟨rfl, rfl, rfl, by decide +kernel, rfl, by decide +kernel, by decide +kernel⟩
theorem ok_rd (D : Df K mg "reduce_product" sReduceProduct ["product"]) (Ds0 : Df K mg "swallows" sSwallows ["factor", "other"]) (ma : mg "all" = none) (mt : mg "tuple" = none) : FnOk P w K mg base CX0 2 D.f D.fd ["product"] (spRd K) := by
  have Gs : FnOk P w K mg base CX0 1 Ds0.f Ds0.fd ["factor", "other"] (spSw K) := ok_sw Ds0 ma
  refine D.F.ok scRd (fun vs H Q E h => ?_) (fun cdv A outer s H vs Q E hr h => ?_)
  · obtain ⟨v, fs, rfl, _⟩ := h
    rfl
  · obtain ⟨v, fs, rfl, ⟨a, xs, rfl, hq, iF⟩, fl, l1, k⟩ := h
    refine ⟨_, PSs.nox (pss_cons (ps_set (i := 1) scRd.nd rfl (.inl rfl) (pe_lst pa_nil)) (pss_cons (ps_for PassesOwn.never rfl (pi_tup (pv 0)) (pg_name (i := 2) scRd.nd rfl (.inl rfl)) (C8.pss_cut (ps_while PassesOwn.never (pw_and (pt_truth (pv 1) (by intro _; rfl)) (pw_and1 (pt_val (pe_call Gs hr (by rfl) Ds0.g Ds0.F.kp Ds0.b .nil pass0 (pa_cons (pv 2) (pa_cons (pe_ix ix_list (pv 1) (pe_un un_neg pe_int) (fun _ _ => rfl)) pa_nil)))))).pt (pss_one (ps_expr (pe_bm0 PySem.F.plainAttrs_list PySem.F.slot_list_pop PySem.F.type_list_pop mt_pop (pv 1))))) (pss_one (ps_if (pw_or (pt_not (pt_truth (pv 1) (by intro _; rfl))) (pw_or1 (pt_not (pt_val (pe_call Gs hr (by rfl) Ds0.g Ds0.F.kp Ds0.b .nil pass0 (pa_cons (pe_ix ix_list (pv 1) (pe_un un_neg pe_int) (fun _ _ => rfl)) (pa_cons (pv 2) pa_nil))))))).pt (pss_one (ps_expr (pe_bm PySem.F.plainAttrs_list PySem.F.slot_list_append PySem.F.type_list_append mt_append (pv 1) (pa_cons (pv 2) pa_nil)))) pss_nil)))) (pss_one (ps_ret (pe_callTy call_tuple_of (by rfl) mt (by decide +kernel) (pa_cons (pv 1) pa_nil)))))), ?_⟩
    refine ⟨by show 0 ≤ sizeLine; decide, fun L hL => ?_⟩
    have sL := same_upd (o := .lst []) hL
    have xl := iF.len
    refine ⟨.ref a, rfl, a, rfl, ⟨xs, same_tup sL _ _ hq⟩, for_it (walk_tup (xs := xs)) (fun i σ H' => ∃ (us : List V) (st : List Fc) (y2 : Option V), σ = [some (.ref a), some (.ref L), y2] ∧ H' L = some (.lst us) ∧ IsFs K H' us st.reverse ∧ st = (fs.take i).foldl stp [] ∧ st.length ≤ i ∧ (∀ g ∈ st, g ∈ fs) ∧ Same H H')
      ⟨[], [], _, rfl, upd_same, .nil, rfl, Nat.le_refl _, fun g hg => (nomatch hg), sL⟩ (fun _ _ H' _ ⟨_, _, _, _, _, _, _, _, _, sm⟩ => same_tup sm _ _ hq) ?_ ?_⟩
    · rintro i x σ G G' hi ⟨us, st, y2, rfl, gL, iU, est, stl, stm, sm⟩ ⟨rfl, hx⟩
      obtain ⟨f, hf, isf0⟩ := iF.get i x hx
      have fm : f ∈ fs := List.mem_of_getElem? hf
      have il : i < fs.length := by omega
      refine ⟨fun σ' H' => ∃ us : List V, σ' = [some (.ref a), some (.ref L), some x] ∧ H' L = some (.lst us) ∧ IsFs K H' us (st.dropWhile (sw f)).reverse ∧ Same H H', ?_, ?_⟩
      · refine ⟨fun m σ' H' => ∃ (us : List V) (st' : List Fc), σ' = [some (.ref a), some (.ref L), some x] ∧ H' L = some (.lst us) ∧ IsFs K H' us st'.reverse ∧ st'.dropWhile (sw f) = st.dropWhile (sw f) ∧ (∀ g ∈ st', g ∈ fs) ∧ m = st'.length ∧ Same H H', ⟨_, us, st, rfl, gL, iU, rfl, stm, rfl, sm⟩, ?_⟩
        rintro m σ' H' ⟨us, st', rfl, gL, iU, ed, stm', rfl, sm⟩
        cases st' with
        | nil =>
          cases iU
          refine ⟨.ref L, rfl, false, .inl ⟨_, SqL.of gL, rfl⟩, iteF (iteF ⟨[], rfl, gL, ?_, sm⟩)⟩
          rw [← ed]
          exact .nil
        | cons g r =>
          rw [List.reverse_cons] at iU
          obtain ⟨us0, v, rfl, iU0, isg⟩ := iU.unsnoc
          refine ⟨.ref L, rfl, true, .inl ⟨_, SqL.of gL, by simp⟩, iteT ?_⟩
          have gm := fl g (stm' g List.mem_cons_self)
          refine ⟨x, rfl, .ref L, rfl, 1, rfl, L, us0 ++ [v], -1, v, rfl, rfl, SqL.of gL, atI_last us0 v, x, v, f, g, rfl, isf0.mono (same_tup sm), isg, gm, fun H2 s2 => ⟨_, rfl, ite2 (fun e => ?_) (fun e => ?_)⟩⟩
          · refine ⟨fun σ' H' => ∃ us : List V, σ' = [some (.ref a), some (.ref L), some x] ∧ H' L = some (.lst us) ∧ IsFs K H' us r.reverse ∧ Same H H', fun σ' H' h => ?_, ?_⟩
            · obtain ⟨us, rfl, gL', iU', sm'⟩ := h
              refine ⟨r.length, by simp, us, r, rfl, gL', iU', ?_, fun g hg => stm' g (List.mem_cons_of_mem _ hg), rfl, sm'⟩
              rw [← ed, List.dropWhile_cons, if_pos e]
            · have gL2 := s2 _ _ gL
              refine ⟨.ref L, rfl, .inl ⟨rfl, _, SqL.of gL2⟩, L, us0 ++ [v], v, rfl, rfl, gL2, by simp, us0, rfl, ?_, (iU0.mono (same_tup s2)).mono (upd_tup gL2), fun b o e => (upd_ne (ne_of_none e hL)).trans ((sm.trans s2) _ _ e)⟩
              rw [upd_same, List.dropLast_concat]
          · have e' : sw f g = false := by simpa using e
            refine ⟨us0 ++ [v], rfl, s2 _ _ gL, ?_, sm.trans s2⟩
            rw [← ed, List.dropWhile_cons, if_neg e, List.reverse_cons]
            exact (iU0.snoc isg).mono (same_tup s2)
      · rintro σ' H' ⟨us, rfl, gL, iU, sm⟩
        have tk : (fs.take (i + 1)).foldl stp [] = stp st f := by
          rw [List.take_add_one, hf, est]
          exact List.foldl_append
        have sl := stp_len st f
        have smem : ∀ g ∈ stp st f, g ∈ fs := fun g hg => by
          rcases stp_mem hg with q | q
          · rw [q]; exact fm
          · exact stm g q
        have push : ∀ {H2 : Hp}, H2 L = some (.lst us) → IsFs K H2 us (st.dropWhile (sw f)).reverse → Same H H2 → stp st f = f :: st.dropWhile (sw f) →
            ∃ (us' : List V) (st' : List Fc) (y2 : Option V), [some (V.ref a), some (.ref L), some x] = [some (.ref a), some (.ref L), y2] ∧ (upd H2 L (.lst (us ++ [x]))) L = some (.lst us') ∧ IsFs K (upd H2 L (.lst (us ++ [x]))) us' st'.reverse ∧ st' = (fs.take (i + 1)).foldl stp [] ∧ st'.length ≤ i + 1 ∧ (∀ g ∈ st', g ∈ fs) ∧ Same H (upd H2 L (.lst (us ++ [x]))) := by
          intro H2 gL2 iU2 sm2 e
          refine ⟨us ++ [x], stp st f, _, rfl, upd_same, ?_, tk.symm, by omega, smem, fun b o e => (upd_ne (ne_of_none e hL)).trans (sm2 _ _ e)⟩
          rw [e, List.reverse_cons]
          exact (iU2.snoc (isf0.mono (same_tup sm2))).mono (upd_tup gL2)
        have usl : us.length < sizeLine := by
          rw [iU.len, List.length_reverse, sizeLine_eq]
          have := (List.dropWhile_suffix (l := st) (sw f)).length_le
          omega
        cases ew : st.dropWhile (sw f) with
        | nil =>
          rw [ew] at iU
          cases iU
          refine ⟨.ref L, rfl, false, .inl ⟨_, SqL.of gL, rfl⟩, iteT ?_⟩
          refine iteT ?_
          refine ⟨.ref L, rfl, .inl ⟨rfl, _, SqL.of gL⟩, x, rfl, L, _, _, rfl, rfl, gL, usl, ?_⟩
          refine push gL (by rw [ew]; exact .nil) sm ?_
          unfold stp
          rw [ew]
        | cons g r =>
          rw [ew, List.reverse_cons] at iU
          obtain ⟨us0, v, rfl, iU0, isg⟩ := iU.unsnoc
          refine ⟨.ref L, rfl, true, .inl ⟨_, SqL.of gL, by simp⟩, iteF ?_⟩
          refine ⟨.ref L, rfl, 1, rfl, L, us0 ++ [v], -1, v, rfl, rfl, SqL.of gL, atI_last us0 v, x, rfl, v, x, g, f, rfl, isg, isf0.mono (same_tup sm), fl f fm, fun H2 s2 => ⟨_, rfl, ?_⟩⟩
          have gL2 := s2 _ _ gL
          have iU2 : IsFs K H2 (us0 ++ [v]) (st.dropWhile (sw f)).reverse := by
            rw [ew, List.reverse_cons]
            exact (iU0.snoc isg).mono (same_tup s2)
          refine ite2 (fun e => ?_) (fun e => ?_)
          · have e' : sw g f = false := by simpa using e
            refine ⟨.ref L, rfl, .inl ⟨rfl, _, SqL.of gL2⟩, x, rfl, L, _, _, rfl, rfl, gL2, usl, ?_⟩
            refine push gL2 iU2 (sm.trans s2) ?_
            unfold stp
            rw [ew]
            show (if sw g f = true then _ else _) = _
            rw [if_neg (by rw [e']; simp)]
          · have e' : sw g f = true := by simpa using e
            have est' : stp st f = st.dropWhile (sw f) := by
              unfold stp
              rw [ew]
              show (if sw g f = true then _ else _) = _
              rw [if_pos e']
            refine ⟨us0 ++ [v], stp st f, _, rfl, gL2, ?_, tk.symm, by omega, smem, sm.trans s2⟩
            rw [est']
            exact iU2
    · rintro σ G ⟨us, st, y2, rfl, gL, iU, est, stl, stm, sm⟩
      refine ⟨.ref L, rfl, L, us, rfl, .inl ⟨SqL.of gL, fun p hp => ?_⟩⟩
      have sp := same_upd (o := .tup us) hp
      refine k _ _ (sm.trans sp) ⟨p, us, rfl, SqT.of upd_same, ?_⟩
      have e : red fs = st.reverse := by
        unfold red
        rw [est, xl, List.take_length]
      rw [e]
      exact iU.mono (same_tup sp)
end
end DW
/-! format_factor, format_product, is_inside, size_of_product, by_written_form -/
namespace DW
open PySem PySem.Spec PyProof.Rows L2 TL
set_option autoImplicit false
theorem tl_app2 (x y : Str) : tl (x ++ y) = tl x ++ tl y := Array.toList_append
/-! ### written forms -/
def fform (f : Fc) : Str := if f.1 = true then ("{" : Str) ++ f.2 ++ ("}*" : Str) else f.2 ++ ("?" : Str)
def pform (fs : List Fc) : Str := if fs = [] then "-" else Txt.join "" (fs.map fform)
def spFf (K : PySem.W.Frag) : Sp := fun vs H Q _ => ∃ (v : V) (f : Fc), vs = [v] ∧ IsF K H v f ∧ (ls f).length ≤ 1000 ∧ Q (.str (fform f)) H
def spFp (K : PySem.W.Frag) : Sp := fun vs H Q _ => ∃ (v : V) (fs : List Fc), vs = [v] ∧ IsP K H v fs ∧ (∀ f ∈ fs, (ls f).length ≤ 1000) ∧ fs.length ≤ 10000 ∧ ∀ H', Same H H' → Q (.str (pform fs)) H'
theorem fform_len {f : Fc} (h : (ls f).length ≤ 1000) : (fform f).length ≤ 1003 := by
  have e : ∀ y : Str, y.length = (tl y).length := fun y => (Array.length_toList).symm
  have h' : (tl f.2).length ≤ 1000 := h
  unfold fform
  split
  · rw [e, tl_app2, tl_app2, List.length_append, List.length_append]
    have e1 : (tl "{").length = 1 := by decide +kernel
    have e2 : (tl "}*").length = 2 := by decide +kernel
    omega
  · rw [e, tl_app2, List.length_append]
    have e2 : (tl "?").length = 1 := by decide +kernel
    omega
section
variable {P : Program} {w : World} {K : PySem.W.Frag} {mg : Str → Option Value} {base : Heap}
theorem scFf : FnScope ["factor", "kind", "letters"] ["factor"] (defScope sFormatFactor) := ⟨rfl, rfl, rfl, by decide +kernel, rfl, by decide +kernel, by decide +kernel⟩
theorem ok_ff (D : Df K mg "format_factor" sFormatFactor ["factor"]) : FnOk P w K mg base CX0 1 D.f D.fd ["factor"] (spFf K) := by
  refine D.F.ok scFf (fun vs H Q E h => ?_) (fun cdv A outer s H vs Q E hr h => ?_)
  · obtain ⟨v, f, rfl, _⟩ := h
    rfl
  · obtain ⟨v, f, rfl, ⟨a, rfl, ha⟩, fl, k⟩ := h
    have sz : ∀ y : Str, y.length = (tl y).length := fun y => (Array.length_toList).symm
    have fl' : (tl f.2).length ≤ 1000 := fl
    refine ⟨_, (pss_cons (ps_asg (pv 0) (pg_tup rfl (pgs_cons (pg_name (i := 1) scFf.nd rfl (.inl rfl)) (pgs_cons (pg_name (i := 2) scFf.nd rfl (.inl rfl)) pgs_nil)))) (pss_cons (ps_if (pt_cmpR op_eq (pv 1) pe_str (nomark _)) (pss_one (ps_ret (pe_op op_add_str (pv 2) pe_str))) pss_nil) (pss_one (ps_ret (pe_op op_add_str (pe_op op_add_str pe_str (pv 2)) pe_str))))), ?_⟩
    refine ⟨.ref a, rfl, a, _, rfl, ha, rfl, _, _, rfl, _, _, rfl, rfl, ?_⟩
    refine ⟨_, rfl, rfl, _, rfl, ?_⟩
    rw [kd_opt]
    unfold fform at k
    have l1 : ("?" : Str).length = 1 := by decide +kernel
    have l2 : ("{" : Str).length = 1 := by decide +kernel
    have l3 : ("}*" : Str).length = 2 := by decide +kernel
    cases q : f.1 with
    | false =>
      rw [q, if_neg (by simp)] at k
      exact iteT ⟨_, rfl, f.2, "?", rfl, rfl, by rw [l1, sz, sizeLine_eq]; omega, k⟩
    | true =>
      rw [q, if_pos rfl] at k
      refine iteF ⟨_, rfl, "{", f.2, rfl, rfl, by rw [l2, sz, sizeLine_eq]; omega, ("{" : Str) ++ f.2, "}*", rfl, rfl, ?_, k⟩
      rw [l3, sz, tl_app2, List.length_append, sizeLine_eq]
      have : (tl "{").length = 1 := by decide +kernel
      omega
theorem scFp : FnScope ["product", "factor"] ["product"] (defScope sFormatProduct) := ⟨rfl, rfl, rfl, by decide +kernel, rfl, by decide +kernel, by decide +kernel⟩
theorem ok_fp (D : Df K mg "format_product" sFormatProduct ["product"]) (Df0 : Df K mg "format_factor" sFormatFactor ["factor"]) (ml : mg "len" = none) (me0 : ∃ t, mg "EMPTY_FORM" = some (.str "-" t)) : FnOk P w K mg base CX0 2 D.f D.fd ["product"] (spFp K) := by
  have Gf : FnOk P w K mg base CX0 1 Df0.f Df0.fd ["factor"] (spFf K) := ok_ff Df0
  have me : ∃ u, mg "EMPTY_FORM" = some u ∧ RelV (.str "-") u := by
    obtain ⟨t, e⟩ := me0
    exact ⟨_, e, t, rfl⟩
  refine D.F.ok scFp (fun vs H Q E h => ?_) (fun cdv A outer s H vs Q E hr h => ?_)
  · obtain ⟨v, fs, rfl, _⟩ := h
    rfl
  · obtain ⟨v, fs, rfl, ⟨a, xs, rfl, ha, iF⟩, fl, l1, k⟩ := h
    have xl := iF.len
    refine ⟨_, (pss_cons (ps_if (pt_cmpR op_eq (pe_callB call_len_seq (by rfl) ml PySem.boot_len (pa_cons (pv 0) pa_nil)) pe_int (nomark _)) (pss_one (ps_ret (C8.pe_gc (by rfl) me))) pss_nil) (pss_one (ps_ret (pe_join pe_str (pe_lc (own := [("factor", 1)]) (g := gName 1) rfl scFp.nd (pi_tup (pv 0)) (blkOk_by (N := ["product", "factor"]) (sc := defScope sFormatProduct) (by decide +kernel)) (fun _ _ _ _ _ => pg_name (i := 1) scFp.nd rfl (Or.inl rfl)) (fun _ _ _ _ _ => pts_nil) (fun _ _ _ _ _ => (pe_call Gf hr (by rfl) Df0.g Df0.F.kp Df0.b .nil pass0 (pa_cons (pv 1) pa_nil)))))))), ?_⟩
    refine ⟨.ref a, rfl, a, xs, rfl, .inr ha, rfl, _, rfl, ?_⟩
    refine ite2 (fun e => ?_) (fun e => ?_)
    · have e' : fs = [] := by
        have := V.int.inj (of_decide_eq_true e)
        exact List.length_eq_zero_iff.mp (by omega)
      have q := k _ (Same.refl _)
      unfold pform at q
      rw [if_pos e'] at q
      exact q
    · have ne : fs ≠ [] := fun z => e (decide_eq_true (by rw [xl, z]; rfl))
      refine ⟨⟨_, rfl⟩, .ref a, rfl, a, rfl, ⟨_, ha⟩, fun L hL => ?_⟩
      have sL := same_upd (o := .lst []) hL
      refine lc_it (walk_tup (xs := xs)) (fun i H' => H' L = some (.lst (((fs.take i).map fform).map V.str)) ∧ Same H H') ⟨upd_same, sL⟩ (fun _ _ _ ⟨_, sm⟩ => same_tup sm _ _ ha) ?_ ?_
      · rintro i x G G' hi ⟨gL, sm⟩ ⟨rfl, hx⟩
        obtain ⟨f, hf, isf⟩ := iF.get i x hx
        refine ⟨rfl, yes ?_⟩
        refine ⟨x, rfl, x, f, rfl, isf.mono (same_tup sm), fl f (List.mem_of_getElem? hf), ?_⟩
        refine ⟨_, gL, ?_, ?_, fun b o e => (upd_ne (ne_of_none e hL)).trans (sm _ _ e)⟩
        · rw [List.length_map, List.length_map, List.length_take, sizeLine_eq]
          omega
        · rw [upd_same, List.take_add_one, hf, List.map_append, List.map_append]
          rfl
      · rintro G ⟨gL, sm⟩
        rw [xl, List.take_length] at gL
        refine ⟨"", L, fs.map fform, rfl, rfl, .inl (SqL.of gL), ?_, ?_⟩
        · have bound : ∀ gs : List Fc, (∀ f ∈ gs, (ls f).length ≤ 1000) → (((gs.map fform).map (·.length)).sum ≤ 1003 * gs.length) := by
            intro gs
            induction gs with
            | nil => intro _; exact Nat.le_refl _
            | cons g gs ih =>
              intro hg
              have h1 := fform_len (hg g List.mem_cons_self)
              have h2 := ih fun f hf => hg f (List.mem_cons_of_mem _ hf)
              simp only [List.map_cons, List.sum_cons, List.length_cons]
              omega
          have := bound fs fl
          have e0 : ("" : Str).length = 0 := rfl
          rw [e0, Nat.mul_zero]
          omega
        · have q := k _ sm
          unfold pform at q
          rw [if_neg ne] at q
          exact q
inductive IsL (K : PySem.W.Frag) (H : Hp) : List V → List (List Fc) → Prop where
  | nil : IsL K H [] []
  | cons {v : V} {f : List Fc} {vs : List V} {fs : List (List Fc)} (h : IsP K H v f) (r : IsL K H vs fs) : IsL K H (v :: vs) (f :: fs)
theorem IsL.mono {H H' : Hp} (m : ∀ b xs, SqT K H b xs → SqT K H' b xs) : ∀ {vs : List V} {fs : List (List Fc)}, IsL K H vs fs → IsL K H' vs fs
  | _, _, .nil => .nil
  | _, _, .cons a r => .cons (a.mono m) (r.mono m)
theorem IsL.len {H : Hp} : ∀ {vs : List V} {fs : List (List Fc)}, IsL K H vs fs → vs.length = fs.length
  | _, _, .nil => rfl
  | _, _, .cons _ r => by rw [List.length_cons, List.length_cons, r.len]
theorem IsL.get {H : Hp} : ∀ {vs : List V} {fs : List (List Fc)}, IsL K H vs fs → ∀ (i : Nat) (v : V), vs[i]? = some v → ∃ f, fs[i]? = some f ∧ IsP K H v f
  | _, _, .nil, i, v, h => by simp at h
  | _, _, .cons a r, 0, v, h => by
    have e := Option.some.inj h
    subst e
    exact ⟨_, rfl, a⟩
  | _, _, .cons a r, i + 1, v, h => r.get i v h
theorem IsL.app {H : Hp} : ∀ {vs us : List V} {fs gs : List (List Fc)}, IsL K H vs fs → IsL K H us gs → IsL K H (vs ++ us) (fs ++ gs)
  | _, _, _, _, .nil, h => h
  | _, _, _, _, .cons a r, h => .cons a (r.app h)
theorem same_lst {H H' : Hp} {a : Addr} {xs : List V} (s : Same H H') (h : SqL K H a xs) : SqL K H' a xs := by
  rcases h with (h | ⟨o, h⟩) | h
  · exact .inl (.inl (s _ _ h))
  · exact .inl (.inr ⟨o, s _ _ h⟩)
  · exact .inr h
/-! ### by_written_form -/
theorem scBw : FnScope ["products"] ["products"] (defScope sByWrittenForm) := ⟨rfl, rfl, rfl, by decide +kernel, rfl, by decide +kernel, by decide +kernel⟩
/-- what a value's product is written as -/
def spBw (K : PySem.W.Frag) : Sp := fun vs H Q _ => ∃ (a : Addr) (xs : List V) (qs : List (List Fc)), vs = [.ref a] ∧ SqL K H a xs ∧ IsL K H xs qs ∧ (∀ q ∈ qs, (∀ f ∈ q, (ls f).length ≤ 1000) ∧ q.length ≤ 10000) ∧
  ∀ H' p ys zs, Same H H' → H p = none → H' p = some (.lst ys) → IsL K H' ys zs → zs = qs.mergeSort (fun x y => decide (tl (pform x) ≤ tl (pform y))) → Q (.ref p) H'
/-- lists that belong together stay so when both are sorted -/
theorem IsL.sorted {H : Hp} {g : V → Str} {xs : List V} {qs : List (List Fc)} (h : IsL K H xs qs) (hg : ∀ (i : Nat) (v : V) (q : List Fc), xs[i]? = some v → qs[i]? = some q → g v = pform q) : IsL K H (xs.mergeSort (SK.leG g)) (qs.mergeSort fun x y => decide (tl (pform x) ≤ tl (pform y))) := by
  have xl := h.len
  let zs := xs.zip qs
  have e1 : zs.map Prod.fst = xs := List.map_fst_zip (by omega)
  have e2 : zs.map Prod.snd = qs := List.map_snd_zip (by omega)
  have mem : ∀ z ∈ zs, IsP K H z.1 z.2 ∧ g z.1 = pform z.2 := by
    intro z hz
    obtain ⟨i, hi⟩ := List.getElem?_of_mem hz
    obtain ⟨h1, h2⟩ := List.getElem?_zip_eq_some.mp hi
    obtain ⟨f, hf, isf⟩ := h.get i _ h1
    rw [h2] at hf
    cases hf
    exact ⟨isf, hg i _ _ h1 h2⟩
  let le : V × List Fc → V × List Fc → Bool := fun x y => decide (tl (pform x.2) ≤ tl (pform y.2))
  have m1 : (zs.mergeSort le).map Prod.fst = xs.mergeSort (SK.leG g) := by
    rw [List.map_mergeSort (r := le) (s := SK.leG g) (f := Prod.fst) (fun a ha b hb => ?_), e1]
    unfold SK.leG
    rw [PySem.W.dataLe_str]
    show decide (tl (pform a.2) ≤ tl (pform b.2)) = decide (tl (g a.1) ≤ tl (g b.1))
    rw [(mem a ha).2, (mem b hb).2]
  have m2 : (zs.mergeSort le).map Prod.snd = qs.mergeSort fun x y => decide (tl (pform x) ≤ tl (pform y)) := by
    rw [List.map_mergeSort (r := le) (s := fun x y => decide (tl (pform x) ≤ tl (pform y))) (f := Prod.snd) (fun a ha b hb => rfl), e2]
  rw [← m1, ← m2]
  have all : ∀ l : List (V × List Fc), (∀ z ∈ l, IsP K H z.1 z.2) → IsL K H (l.map Prod.fst) (l.map Prod.snd) := by
    intro l
    induction l with
    | nil => intro _; exact .nil
    | cons z l ih => exact fun hl => .cons (hl z List.mem_cons_self) (ih fun y hy => hl y (List.mem_cons_of_mem _ hy))
  exact all _ fun z hz => (mem z ((List.mergeSort_perm zs le).mem_iff.mp hz)).1
open Classical in
theorem form_of {H : Hp} {xs : List V} {qs : List (List Fc)} (h : IsL K H xs qs) (inj : ∀ (v : V) (p q : List Fc), IsP K H v p → IsP K H v q → p = q) : ∃ g : V → Str, ∀ (i : Nat) (v : V) (q : List Fc), xs[i]? = some v → qs[i]? = some q → g v = pform q := by
  refine ⟨fun v => if c : ∃ q, IsP K H v q then pform c.choose else "", fun i v q hv hq => ?_⟩
  obtain ⟨f, hf, isf⟩ := h.get i v hv
  rw [hq] at hf
  cases hf
  have c : ∃ q, IsP K H v q := ⟨q, isf⟩
  show (if c : ∃ q, IsP K H v q then pform c.choose else "") = pform q
  rw [dif_pos c, inj v _ _ c.choose_spec isf]
end
end DW
namespace DW
open PySem PySem.Spec PyProof.Rows L2 TL
set_option autoImplicit false
def szs (fs : List Fc) : List Int := fs.map fun f => if f.1 = true then ((ls f).length : Int) else 0
theorem Apart.lone {s : Fc} : ∀ {l : List Fc}, Apart l → s ∈ l → (∀ f ∈ l, sw s f = true) → l = [s]
  | [], _, h, _ => (nomatch h)
  | [x], _, h, _ => by rw [List.mem_singleton.mp h]
  | x :: y :: r, ha, h, hs => by
    rcases List.mem_cons.mp h with e | e
    · subst e
      have h1 := hs y (by simp)
      rw [ha.1] at h1
      cases h1
    · have ih := Apart.lone (l := y :: r) ha.2.2 e fun f hf => hs f (List.mem_cons_of_mem _ hf)
      have ey : y = s := (List.cons.inj ih).1
      have h1 := hs x (by simp)
      rw [← ey, ha.2.1] at h1
      cases h1
theorem sw_all {z : Str} {f : Fc} (h : FOk z f) : sw (true, z) f = true := sw_of rfl fun c hc => h.2.1.subset hc
theorem red_lone {z : Str} {fs : List Fc} (ok : ∀ f ∈ fs, FOk z f) (h : (true, z) ∈ red fs) : red fs = [(true, z)] := by
  have hm : (true, z) ∈ fs.foldl stp [] := List.mem_reverse.mp h
  have e := Apart.lone (fold_apart fs [] trivial) hm fun f hf => sw_all (ok f (red_mem (List.mem_reverse.mpr hf)))
  unfold red
  rw [e]
  rfl
theorem star_of {z : Str} {f : Fc} (h : FOk z f) (k : f.1 = true) (l : (ls f).length = (tl z).length) : f = (true, z) := by
  have e : tl f.2 = tl z := h.2.1.eq_of_length l
  obtain ⟨a, b⟩ := f
  simp only at k e
  rw [k, tl_inj e]
/-- a product that takes in the star of the alphabet has it as a factor -/
theorem inc_star {z : Str} : ∀ {q : List Fc}, inc q [(true, z)] = true → ∃ f ∈ q, cov f (true, z) = true
  | [], h => by simp [inc] at h
  | g :: q, h => by
    by_cases c : cov g (true, z) = true
    · exact ⟨g, List.mem_cons_self, c⟩
    · rw [inc, if_neg c] at h
      obtain ⟨f, hf, hc⟩ := inc_star (q := q) h
      exact ⟨f, List.mem_cons_of_mem _ hf, hc⟩
theorem cov_star {z : Str} {f : Fc} (ok : FOk z f) (al : Alph z) (h : cov f (true, z) = true) : f = (true, z) := by
  unfold cov at h
  rcases Bool.or_eq_true_iff.mp h with e | e
  · exact of_decide_eq_true e
  · have nd : (tl z).Nodup := al.1.imp fun h => by omega
    refine star_of ok (sw_star e) (Nat.le_antisymm ok.2.1.length_le ?_)
    exact nd.length_le_of_subset fun c hc => sw_sub e c hc
/-- a product that has all words over the alphabet is reduced to its star -/
theorem red_full {z : Str} {p : List Fc} (ok : ∀ f ∈ p, FOk z f) (al : Alph z) (h : inc (red p) [(true, z)] = true) : red p = [(true, z)] := by
  obtain ⟨f, hf, hc⟩ := inc_star (z := z) h
  have e := cov_star (ok f (red_mem hf)) al hc
  rw [e] at hf
  exact red_lone ok hf
/-! ### sizes grow with inclusion -/
def cz (k : Int) (r : List Fc) : Nat := (szs r).count k
theorem cz_app (k : Int) (a b : List Fc) : cz k (a ++ b) = cz k a + cz k b := by
  unfold cz szs
  rw [List.map_append, List.count_append]
theorem cz_nil (k : Int) : cz k [] = 0 := rfl
def sz1 (f : Fc) : Int := if f.1 = true then ((ls f).length : Int) else 0
theorem cz_one (k : Int) (f : Fc) : cz k [f] = if sz1 f = k then 1 else 0 := by
  show List.count k [sz1 f] = _
  rw [List.count_singleton]
  by_cases e : sz1 f = k
  · rw [if_pos e, e]; simp
  · rw [if_neg e]; simp [e]
def Lx (r q : List Fc) : Prop := cz 3 r < cz 3 q ∨ (cz 3 r = cz 3 q ∧ (cz 2 r < cz 2 q ∨ (cz 2 r = cz 2 q ∧ (cz 1 r < cz 1 q ∨ (cz 1 r = cz 1 q ∧ cz 0 r < cz 0 q)))))
theorem Lx.app {a b c d : List Fc} (h : Lx a b) (k : c = d ∨ Lx c d) : Lx (a ++ c) (b ++ d) := by
  unfold Lx at *
  simp only [cz_app]
  rcases k with e | k
  · subst e
    omega
  · omega
theorem Lx.app2 {a c d : List Fc} (k : Lx c d) : Lx (a ++ c) (a ++ d) := by
  unfold Lx at *
  simp only [cz_app]
  omega
theorem Apart.tw (p : Fc → Bool) : ∀ {st : List Fc}, Apart st → Apart (st.takeWhile p)
  | [], _ => trivial
  | [g], _ => by
    rw [List.takeWhile_cons]
    split <;> trivial
  | g :: h :: st, ha => by
    have ih := Apart.tw p ha.tail
    rw [List.takeWhile_cons]
    split
    · rw [List.takeWhile_cons] at ih ⊢
      split at ih
      · rename_i q
        rw [if_pos q]
        exact ⟨ha.1, ha.2.1, ih⟩
      · rename_i q
        rw [if_neg q]
        trivial
    · trivial
theorem inc_run {g : Fc} {q : List Fc} (k : g.1 = true) : ∀ r : List Fc, inc (g :: q) r = inc q (r.dropWhile (cov g)) 
  | [] => by
    rw [List.dropWhile_nil]
    simp [inc]
  | f :: r => by
    rw [List.dropWhile_cons]
    by_cases c : cov g f = true
    · rw [inc, if_pos c, if_pos k, if_pos c]
      exact inc_run k r
    · rw [inc, if_neg c, if_neg c]
theorem sz1_le {z : Str} {f : Fc} (al : Alph z) (h : FOk z f) : 0 ≤ sz1 f ∧ sz1 f ≤ 3 := by
  have := fok_len al h
  unfold sz1
  split
  · omega
  · omega
theorem cz_zero {k : Int} : ∀ {r : List Fc}, (∀ f ∈ r, sz1 f ≠ k) → cz k r = 0
  | [], _ => rfl
  | f :: r, h => by
    have e := cz_app k [f] r
    rw [cz_one, if_neg (h f List.mem_cons_self), cz_zero fun g hg => h g (List.mem_cons_of_mem _ hg)] at e
    exact e
theorem Lx.nil {z : Str} (al : Alph z) {g : Fc} {q : List Fc} (h : FOk z g) : Lx [] (g :: q) := by
  have e : ∀ k, cz k (g :: q) = (if sz1 g = k then 1 else 0) + cz k q := fun k => by
    rw [← cz_one]
    exact cz_app k [g] q
  have s := sz1_le al h
  unfold Lx
  rw [e, e, e, e, cz_nil, cz_nil, cz_nil, cz_nil]
  have : sz1 g = 0 ∨ sz1 g = 1 ∨ sz1 g = 2 ∨ sz1 g = 3 := by omega
  rcases this with w | w | w | w <;> rw [w] <;> simp <;> omega
theorem asc_sub : ∀ (m l : List Nat), l.Pairwise (· < ·) → m.Pairwise (· < ·) → (∀ c ∈ l, c ∈ m) → l.Sublist m
  | [], [], _, _, _ => .slnil
  | [], a :: l, _, _, h => (nomatch h a List.mem_cons_self)
  | b :: m, [], _, _, _ => List.nil_sublist _
  | b :: m, a :: l, pl, pm, h => by
    have pl' := List.pairwise_cons.mp pl
    have pm' := List.pairwise_cons.mp pm
    by_cases e : a = b
    · subst e
      refine (asc_sub m l pl'.2 pm'.2 fun c hc => ?_).cons_cons a
      rcases List.mem_cons.mp (h c (List.mem_cons_of_mem _ hc)) with q | q
      · have := pl'.1 c hc
        omega
      · exact q
    · refine (asc_sub m (a :: l) pl pm'.2 fun c hc => ?_).cons b
      have am : a ∈ m := (List.mem_cons.mp (h a List.mem_cons_self)).resolve_left e
      have ab := pm'.1 a am
      rcases List.mem_cons.mp (h c hc) with q | q
      · rcases List.mem_cons.mp hc with w | w
        · exact absurd (w.symm.trans q) e
        · have := pl'.1 c w
          omega
      · exact q
theorem Lx.run {z : Str} (al : Alph z) {g : Fc} {run : List Fc} (hg : FOk z g) (k : g.1 = true) (ok : ∀ f ∈ run, FOk z f) (h : ∀ f ∈ run, sw g f = true) (n : g ∉ run) : Lx run [g] := by
  have less : ∀ f ∈ run, sz1 f < sz1 g := fun f hf => by
    have kg : sz1 g = ((ls g).length : Int) := by unfold sz1; rw [if_pos k]
    have g1 : 1 ≤ (ls g).length := by
      have := hg.1
      rcases e : tl g.2 with _ | ⟨x, y⟩
      · exact absurd e this
      · show 1 ≤ (tl g.2).length
        rw [e]
        simp
    rw [kg]
    unfold sz1
    split
    · rename_i kf
      have pf : (tl f.2).Pairwise (· < ·) := List.Pairwise.sublist (ok f hf).2.1 al.1
      have pg : (tl g.2).Pairwise (· < ·) := List.Pairwise.sublist hg.2.1 al.1
      have sub : (tl f.2).Sublist (tl g.2) := asc_sub _ _ pf pg (sw_sub (h f hf))
      have le : (ls f).length ≤ (ls g).length := sub.length_le
      rcases Nat.lt_or_eq_of_le le with q | q
      · omega
      · have e2 : f.2 = g.2 := tl_inj (sub.eq_of_length q)
        have e1 : f = g := by
          obtain ⟨a, b⟩ := f
          obtain ⟨c, d⟩ := g
          simp only at e2 kf k
          rw [e2, kf, k]
        rw [e1] at hf
        exact absurd hf n
    · omega
  have s := sz1_le al hg
  have e : ∀ j, cz j [g] = if sz1 g = j then 1 else 0 := fun j => cz_one j g
  have z0 : ∀ j, sz1 g ≤ j → cz j run = 0 := fun j hj => cz_zero fun f hf w => by have := less f hf; omega
  have : sz1 g = 0 ∨ sz1 g = 1 ∨ sz1 g = 2 ∨ sz1 g = 3 := by omega
  unfold Lx
  rw [e, e, e, e]
  rcases this with w | w | w | w
  · rw [z0 3 (by omega), z0 2 (by omega), z0 1 (by omega), z0 0 (by omega), w]; simp
  · rw [z0 3 (by omega), z0 2 (by omega), z0 1 (by omega), w]; simp
  · rw [z0 3 (by omega), z0 2 (by omega), w]; simp
  · rw [z0 3 (by omega), w]; simp
theorem mem_tw {p : Fc → Bool} {f : Fc} : ∀ {l : List Fc}, f ∈ l.takeWhile p → p f = true
  | [], h => (nomatch h)
  | x :: l, h => by
    rw [List.takeWhile_cons] at h
    split at h
    · rename_i q
      rcases List.mem_cons.mp h with e | e
      · rw [e]; exact q
      · exact mem_tw e
    · exact (nomatch h)
theorem inc_size {z : Str} (al : Alph z) : ∀ (q r : List Fc), (∀ f ∈ q, FOk z f) → (∀ f ∈ r, FOk z f) → Apart r → inc q r = true → r = q ∨ Lx r q
  | [], [], _, _, _, _ => .inl rfl
  | [], f :: r, _, _, _, h => by simp [inc] at h
  | g :: q, r, oq, or, ap, h => by
    have oq' : ∀ f ∈ q, FOk z f := fun f hf => oq f (List.mem_cons_of_mem _ hf)
    have og := oq g List.mem_cons_self
    by_cases k : g.1 = true
    · rw [inc_run k] at h
      have hr : r.takeWhile (cov g) ++ r.dropWhile (cov g) = r := List.takeWhile_append_dropWhile
      have mt : ∀ f ∈ r.takeWhile (cov g), f ∈ r := fun f hf => by rw [← hr]; exact List.mem_append_left _ hf
      have md : ∀ f ∈ r.dropWhile (cov g), f ∈ r := fun f hf => by rw [← hr]; exact List.mem_append_right _ hf
      have swt : ∀ f ∈ r.takeWhile (cov g), sw g f = true := fun f hf => by
        have c : cov g f = true := mem_tw hf
        rcases Bool.or_eq_true_iff.mp c with e | e
        · rw [← of_decide_eq_true e]
          exact sw_of k fun c hc => hc
        · exact e
      have ih := inc_size al q _ oq' (fun f hf => or f (md f hf)) (ap.dw _) h
      by_cases m : g ∈ r.takeWhile (cov g)
      · have e := Apart.lone (ap.tw (cov g)) m swt
        rw [e] at hr
        rcases ih with i | i
        · rw [i] at hr
          exact .inl hr.symm
        · rw [← hr]
          exact .inr (Lx.app2 (a := [g]) i)
      · have l := Lx.run al og k (fun f hf => or f (mt f hf)) swt m
        rw [← hr]
        exact .inr (l.app (b := [g]) ih)
    · have lg : Lx [] [g] := Lx.nil al og
      match r, or, ap, h with
      | [], _, _, _ => exact .inr (Lx.nil al og)
      | f :: p, or, ap, h =>
        by_cases c : cov g f = true
        · have e : g = f := by
            rcases Bool.or_eq_true_iff.mp c with e | e
            · exact of_decide_eq_true e
            · exact absurd (sw_star e) k
          subst e
          rw [inc, if_pos c, if_neg k] at h
          rcases inc_size al q p oq' (fun f hf => or f (List.mem_cons_of_mem _ hf)) ap.tail h with i | i
          · exact .inl (by rw [i])
          · exact .inr (Lx.app2 (a := [g]) i)
        · rw [inc, if_neg c] at h
          exact .inr (lg.app (inc_size al q (f :: p) oq' or ap h))
/-! ### one list: no product of it is inside another one -/
theorem apart_snoc {x : Fc} : ∀ {l : List Fc}, Apart l → (∀ y, l.getLast? = some y → sw y x = false ∧ sw x y = false) → Apart (l ++ [x])
  | [], _, _ => trivial
  | [f], _, h => ⟨(h f rfl).1, (h f rfl).2, trivial⟩
  | f :: g :: r, ha, h => ⟨ha.1, ha.2.1, apart_snoc (l := g :: r) ha.2.2 fun y hy => h y (by rw [List.getLast?_cons_cons]; exact hy)⟩
theorem Apart.rev : ∀ {l : List Fc}, Apart l → Apart l.reverse
  | [], _ => trivial
  | f :: r, ha => by
    rw [List.reverse_cons]
    refine apart_snoc ha.tail.rev fun y hy => ?_
    rw [List.getLast?_reverse] at hy
    cases r with
    | nil => cases hy
    | cons g r =>
      cases hy
      exact ⟨ha.2.1, ha.1⟩
theorem red_apart (fs : List Fc) : Apart (red fs) := (fold_apart fs [] trivial).rev
theorem Lx.asym {r q : List Fc} (h : Lx r q) (g : Lx q r) : False := by
  unfold Lx at h g
  omega
structure Rz (z : Str) (r : List Fc) : Prop where
  ok : ∀ f ∈ r, FOk z f
  ap : Apart r
def Anti (M : List (List Fc)) : Prop := ∀ a ∈ M, ∀ b ∈ M, inc a b = true → b = a
theorem Rz.self {z : Str} {r : List Fc} (h : Rz z r) : inc r r = true := (inc_iff (fok_w1 h.ok) (fok_w1 h.ok)).mpr (Lg.unf _ r fun f hf => (fok_w1 h.ok f hf).2)
theorem len_sum : ∀ (zs : List (List Fc)) (q : List Fc), q ∈ zs → q.length ≤ (zs.map List.length).sum
  | [], _, h => (nomatch h)
  | x :: zs, q, h => by
    rw [List.map_cons, List.sum_cons]
    rcases List.mem_cons.mp h with e | e
    · rw [e]; omega
    · have := len_sum zs q e
      omega
theorem inc_trans {a b c : List Fc} (wa : W1 a) (wc : W1 c) (h1 : inc a b = true) (h2 : inc b c = true) : inc a c = true :=
  (inc_iff wc wa).mpr (inc_sound a b h1 _ (inc_sound b c h2 _ (Lg.unf _ c fun f hf => (wc f hf).2)))
theorem inc_anti {z : Str} (al : Alph z) {a b : List Fc} (ra : Rz z a) (rb : Rz z b) (h1 : inc a b = true) (h2 : inc b a = true) : a = b := by
  rcases inc_size al a b ra.ok rb.ok rb.ap h1 with e | e
  · exact e.symm
  · rcases inc_size al b a rb.ok ra.ok ra.ap h2 with e' | e'
    · exact e'
    · exact (Lx.asym e e').elim
theorem inc_lang {p q : List Fc} (wp : W1 p) (wq : W1 q) : inc q p = true ↔ ∀ u, Lg p u → Lg q u :=
  ⟨fun h u => inc_sound q p h u, fun h => inc_complete (q.length + 1) p q wp wq (by omega) (h _ (Lg.unf _ p fun f hf => (wp f hf).2))⟩
/-! ### derivatives -/
theorem cov_ch {g : Fc} (h : ls g ≠ [] ∧ (g.1 = false → (ls g).length = 1)) (c : Nat) : cov g (false, one c) = true ↔ c ∈ ls g := by
  unfold cov
  rw [Bool.or_eq_true, decide_eq_true_eq]
  constructor
  · rintro (e | e)
    · subst e
      exact List.mem_singleton.mpr rfl
    · exact sw_sub e c (List.mem_singleton.mpr rfl)
  · intro m
    by_cases k : g.1 = true
    · exact .inr (sw_of k fun d hd => by rw [List.mem_singleton.mp hd]; exact m)
    · have k : g.1 = false := by simpa using k
      left
      have l1 := h.2 k
      obtain ⟨x, hx⟩ := List.length_eq_one_iff.mp l1
      rw [hx] at m
      have : g.2 = one c := tl_inj (by rw [show tl g.2 = [x] from hx, tl_one, List.mem_singleton.mp m])
      exact Prod.ext k this
theorem lg_star {g : Fc} {q : List Fc} {c : Nat} {x : List Nat} (k : g.1 = true) (m : c ∈ ls g) : Lg (g :: q) (c :: x) ↔ Lg (g :: q) x := ⟨Lg.tail, .star k m⟩
theorem lg_opt {g : Fc} {q : List Fc} {c : Nat} {x : List Nat} (k : g.1 = false) (m : c ∈ ls g) : Lg (g :: q) (c :: x) ↔ Lg q x := by
  constructor
  · intro h
    cases h with
    | skip h => exact h.tail
    | opt _ _ h => exact h
    | star k' _ _ => rw [k] at k'; cases k'
  · exact .opt k m
theorem lg_not {g : Fc} {q : List Fc} {c : Nat} {x : List Nat} (m : c ∉ ls g) : Lg (g :: q) (c :: x) ↔ Lg q (c :: x) := by
  constructor
  · intro h
    cases h with
    | skip h => exact h
    | opt _ m' _ => exact absurd m' m
    | star _ m' _ => exact absurd m' m
  · exact .skip
theorem rst_word : ∀ (w : List Nat) (q : List Fc), W1 q → ∀ u, Lg q (w ++ u) ↔ ∃ r, rst q (ones w) = some r ∧ Lg r u
  | [], q, _, u => by
    rw [show ones [] = [] from rfl, rst_nil]
    exact ⟨fun h => ⟨q, rfl, h⟩, fun ⟨r, e, h⟩ => by cases e; exact h⟩
  | c :: w, [], _, u => by
    rw [show ones (c :: w) = (false, one c) :: ones w from rfl, rst_none]
    exact ⟨fun h => (nomatch h), fun ⟨r, e, h⟩ => (nomatch e)⟩
  | c :: w, g :: q, wq, u => by
    have wq' : W1 q := fun f hf => wq f (List.mem_cons_of_mem _ hf)
    have hg := wq g List.mem_cons_self
    rw [show ones (c :: w) = (false, one c) :: ones w from rfl, rst_cons, List.cons_append]
    by_cases m : c ∈ ls g
    · rw [if_pos ((cov_ch hg c).mpr m)]
      by_cases k : g.1 = true
      · rw [if_pos k, lg_star k m]
        exact rst_word w (g :: q) wq u
      · rw [if_neg k, lg_opt (by simpa using k) m]
        exact rst_word w q wq' u
    · rw [if_neg fun e => m ((cov_ch hg c).mp e), lg_not m, ← List.cons_append]
      exact rst_word (c :: w) q wq' u
termination_by w q => w.length + q.length
theorem rst_suf : ∀ (q p r : List Fc), rst q p = some r → r <:+ q
  | q, [], r, h => by
    rw [rst_nil] at h
    cases h
    exact List.suffix_refl q
  | [], f :: p, r, h => by
    rw [rst_none] at h
    cases h
  | g :: q, f :: p, r, h => by
    rw [rst_cons] at h
    by_cases c : cov g f = true
    · rw [if_pos c] at h
      by_cases k : g.1 = true
      · rw [if_pos k] at h
        exact rst_suf (g :: q) p r h
      · rw [if_neg k] at h
        exact (rst_suf q p r h).trans (List.suffix_cons g q)
    · rw [if_neg c] at h
      exact (rst_suf q (f :: p) r h).trans (List.suffix_cons g q)
termination_by q p => q.length + p.length
theorem suf_drop {r q : List Fc} (h : r <:+ q) : q.drop (q.length - r.length) = r := by
  obtain ⟨a, rfl⟩ := h
  rw [List.length_append, Nat.add_sub_cancel, List.drop_left]
end DW
/-! The common part of products, from a place of each on: the maths of common_from. -/
namespace DW
open PySem PySem.Spec PyProof.Rows L2 TL
set_option autoImplicit false
/-- the products behind the words of p, each from its place on -/
def pbh : List (List Fc) → List Fc → Option (List (List Fc))
  | [], _ => some []
  | q :: qs, p => match rst q p with
    | none => none
    | some r => (pbh qs p).map (r :: ·)
def Com (qs : List (List Fc)) (u : List Nat) : Prop := ∀ q ∈ qs, Lg q u
def totL (qs : List (List Fc)) : Nat := (qs.map List.length).sum
theorem pbh_cons (q : List Fc) (qs : List (List Fc)) (p : List Fc) : pbh (q :: qs) p = match rst q p with
    | none => none
    | some r => (pbh qs p).map (r :: ·) := rfl
theorem pbh_some {q : List Fc} {qs rs : List (List Fc)} {p : List Fc} (h : pbh (q :: qs) p = some rs) : ∃ r rs', rst q p = some r ∧ pbh qs p = some rs' ∧ rs = r :: rs' := by
  rw [pbh_cons] at h
  cases e : rst q p with
  | none => rw [e] at h; cases h
  | some r =>
    rw [e] at h
    obtain ⟨rs', h1, h2⟩ := Option.map_eq_some_iff.mp h
    exact ⟨r, rs', rfl, h1, h2.symm⟩
theorem pbh_put {q r : List Fc} {qs rs : List (List Fc)} {p : List Fc} (h : rst q p = some r) (g : pbh qs p = some rs) : pbh (q :: qs) p = some (r :: rs) := by
  rw [pbh_cons, h, g]
  rfl
theorem pbh_inc (p : List Fc) : ∀ qs : List (List Fc), (pbh qs p).isSome = true ↔ ∀ q ∈ qs, inc q p = true
  | [] => ⟨fun _ q hq => (nomatch hq), fun _ => rfl⟩
  | q :: qs => by
    have ih := pbh_inc p qs
    constructor
    · intro h
      obtain ⟨rs, e⟩ := Option.isSome_iff_exists.mp h
      obtain ⟨r, rs', h1, h2, rfl⟩ := pbh_some e
      intro x hx
      rcases List.mem_cons.mp hx with rfl | hx
      · rw [← rst_inc, h1]; rfl
      · exact ih.mp (by rw [h2]; rfl) x hx
    · intro h
      have h1 := h q List.mem_cons_self
      rw [← rst_inc] at h1
      obtain ⟨r, e1⟩ := Option.isSome_iff_exists.mp h1
      obtain ⟨rs, e2⟩ := Option.isSome_iff_exists.mp (ih.mpr fun x hx => h x (List.mem_cons_of_mem _ hx))
      rw [pbh_put e1 e2]
      rfl
theorem com_step (c : Nat) (u : List Nat) : ∀ qs : List (List Fc), (∀ q ∈ qs, W1 q) → (Com qs (c :: u) ↔ ∃ rs, pbh qs (ones [c]) = some rs ∧ Com rs u)
  | [], _ => ⟨fun _ => ⟨[], rfl, fun q hq => (nomatch hq)⟩, fun _ q hq => (nomatch hq)⟩
  | q :: qs, w => by
    have ih := com_step c u qs fun x hx => w x (List.mem_cons_of_mem _ hx)
    have h0 := rst_word [c] q (w q List.mem_cons_self) u
    constructor
    · intro h
      obtain ⟨r, e1, l1⟩ := h0.mp (h q List.mem_cons_self)
      obtain ⟨rs, e2, l2⟩ := ih.mp fun x hx => h x (List.mem_cons_of_mem _ hx)
      refine ⟨r :: rs, pbh_put e1 e2, fun x hx => ?_⟩
      rcases List.mem_cons.mp hx with rfl | hx
      · exact l1
      · exact l2 x hx
    · rintro ⟨rs0, e, l⟩
      obtain ⟨r, rs, e1, e2, rfl⟩ := pbh_some e
      intro x hx
      rcases List.mem_cons.mp hx with rfl | hx
      · exact h0.mpr ⟨r, e1, l r List.mem_cons_self⟩
      · exact ih.mpr ⟨rs, e2, fun y hy => l y (List.mem_cons_of_mem _ hy)⟩ x hx
theorem pbh_suf {p : List Fc} : ∀ {qs rs : List (List Fc)}, pbh qs p = some rs → rs.length = qs.length ∧ (∀ r ∈ rs, ∃ q ∈ qs, r <:+ q) ∧ totL rs ≤ totL qs ∧ (totL rs = totL qs → rs = qs)
  | [], rs, h => by
    cases h
    exact ⟨rfl, fun r hr => (nomatch hr), Nat.le_refl _, fun _ => rfl⟩
  | q :: qs, rs0, h => by
    obtain ⟨r, rs, e1, e2, rfl⟩ := pbh_some h
    obtain ⟨h1, h2, h3, h4⟩ := pbh_suf e2
    have s := rst_suf q p r e1
    have sl := s.length_le
    have t1 : totL (r :: rs) = r.length + totL rs := List.sum_cons
    have t2 : totL (q :: qs) = q.length + totL qs := List.sum_cons
    refine ⟨by rw [List.length_cons, List.length_cons, h1], fun x hx => ?_, by omega, fun e => ?_⟩
    · rcases List.mem_cons.mp hx with rfl | hx
      · exact ⟨q, List.mem_cons_self, s⟩
      · obtain ⟨y, hy, sy⟩ := h2 x hx
        exact ⟨y, List.mem_cons_of_mem _ hy, sy⟩
    · rw [h4 (by omega), s.eq_of_length (by omega)]
theorem pbh_ok {z : Str} {qs rs : List (List Fc)} {p : List Fc} (h : pbh qs p = some rs) (ok : ∀ q ∈ qs, ∀ f ∈ q, FOk z f) : ∀ r ∈ rs, ∀ f ∈ r, FOk z f := fun r hr f hf => by
  obtain ⟨q, hq, s⟩ := (pbh_suf h).2.1 r hr
  exact ok q hq f (s.subset hf)
theorem com_nil (qs : List (List Fc)) : Com qs [] := fun q _ => Lg.empty q
theorem com_tail {qs : List (List Fc)} {c : Nat} {u : List Nat} (h : Com qs (c :: u)) : Com qs u := fun q hq => (h q hq).tail
/-! ### in front -/
def infr (f : Fc) (p : List Fc) : List Fc := match p with
  | g :: r => if sw g f = true then g :: r else f :: g :: r
  | [] => [f]
theorem infr_cons (f g : Fc) (r : List Fc) : infr f (g :: r) = if sw g f = true then g :: r else f :: g :: r := rfl
theorem infr_lg (f : Fc) (p : List Fc) (u : List Nat) : Lg (infr f p) u ↔ Lg (f :: p) u := by
  cases p with
  | nil => exact Iff.rfl
  | cons g r =>
    rw [infr_cons]
    by_cases h : sw g f = true
    · rw [if_pos h]
      exact lg_cong (a := []) (b := r) (x := [g]) (y := [f, g]) (fun u => (lg_front h u).symm) u
    · rw [if_neg h]
theorem infr_mem {f : Fc} {p : List Fc} {x : Fc} (h : x ∈ infr f p) : x = f ∨ x ∈ p := by
  cases p with
  | nil => exact List.mem_cons.mp h
  | cons g r =>
    rw [infr_cons] at h
    split at h
    · exact .inr h
    · exact List.mem_cons.mp h
theorem infr_len (f : Fc) (p : List Fc) : (infr f p).length ≤ p.length + 1 := by
  cases p with
  | nil => exact Nat.le_refl _
  | cons g r =>
    rw [infr_cons]
    split
    · exact Nat.le_succ _
    · exact Nat.le_refl _
theorem infr_apart {f : Fc} {p : List Fc} (h : Apart p) (n : ∀ g r, p = g :: r → sw f g = false) : Apart (infr f p) := by
  cases p with
  | nil => trivial
  | cons g r =>
    rw [infr_cons]
    split
    · exact h
    · next q => exact ⟨n g r rfl, by simpa using q, h⟩
/-- what the head of a product in front of which a letter was put holds -/
theorem infr_head (c : Nat) (p : List Fc) : ∀ g r, infr (false, one c) p = g :: r → c ∈ ls g := by
  intro g r h
  cases p with
  | nil =>
    cases h
    exact List.mem_singleton.mpr rfl
  | cons g' r' =>
    rw [infr_cons] at h
    split at h
    · next q =>
      cases h
      exact sw_sub q c (List.mem_singleton.mpr rfl)
    · cases h
      exact List.mem_singleton.mpr rfl
def pre (stay : Str) (c : Nat) (rest : List Fc) : List Fc := if tl stay = [] then infr (false, one c) rest else infr (true, stay) (infr (false, one c) rest)
def stf (stay : Str) : List Fc := if tl stay = [] then [] else [(true, stay)]
theorem pre_lg (stay : Str) (c : Nat) (rest : List Fc) (u : List Nat) : Lg (pre stay c rest) u ↔ Lg (stf stay ++ ((false, one c) :: rest)) u := by
  unfold pre stf
  by_cases h : tl stay = []
  · rw [if_pos h, if_pos h]
    exact infr_lg _ _ u
  · rw [if_neg h, if_neg h, infr_lg]
    have := lg_cong (a := [(true, stay)]) (b := []) (x := infr (false, one c) rest) (y := (false, one c) :: rest) (fun u => infr_lg _ _ u) u
    rw [List.append_nil, List.append_nil] at this
    exact this
theorem pre_rz {z : Str} {stay : Str} {c : Nat} {rest : List Fc} (rz : Rz z rest) (cz : c ∈ tl z) (sz : (tl stay).Sublist (tl z)) (nc : c ∉ tl stay) : Rz z (pre stay c rest) := by
  have o : FOk z (false, one c) := ⟨by rw [tl_one]; simp, by rw [tl_one]; exact List.singleton_sublist.mpr cz, fun _ => rfl⟩
  have ok1 : ∀ f ∈ infr (false, one c) rest, FOk z f := fun f hf => by
    rcases infr_mem hf with rfl | h
    · exact o
    · exact rz.ok f h
  have ap1 : Apart (infr (false, one c) rest) := infr_apart rz.ap fun g r _ => by
    cases e : sw (false, one c) g with
    | false => rfl
    | true => cases sw_star e
  unfold pre
  by_cases h : tl stay = []
  · rw [if_pos h]
    exact ⟨ok1, ap1⟩
  · rw [if_neg h]
    refine ⟨fun f hf => ?_, infr_apart ap1 fun g r e => ?_⟩
    · rcases infr_mem hf with rfl | q
      · exact ⟨h, sz, fun e => by cases e⟩
      · exact ok1 f q
    · cases e2 : sw (true, stay) g with
      | false => rfl
      | true => exact absurd (sw_sub e2 c (infr_head c rest g r e)) nc
theorem pre_len (stay : Str) (c : Nat) (rest : List Fc) : (pre stay c rest).length ≤ rest.length + 2 := by
  unfold pre
  have h1 := infr_len (false, one c) rest
  have h2 := infr_len (true, stay) (infr (false, one c) rest)
  split <;> omega
/-- behind the stay: a word that begins with another letter -/
theorem stf_out {stay : Str} {X : List Fc} {e : Nat} {u : List Nat} (h : e ∉ tl stay) : Lg (stf stay ++ X) (e :: u) ↔ Lg X (e :: u) := by
  unfold stf
  split
  · exact Iff.rfl
  · exact lg_not h
theorem opt_in {c : Nat} {X : List Fc} {u : List Nat} : Lg ((false, one c) :: X) (c :: u) ↔ Lg X u := lg_opt rfl (List.mem_singleton.mpr rfl)
theorem opt_out {c e : Nat} {X : List Fc} {u : List Nat} (h : e ≠ c) : Lg ((false, one c) :: X) (e :: u) ↔ Lg X (e :: u) := lg_not fun q => h (List.mem_singleton.mp q)
theorem stf_split {stay : Str} {X : List Fc} {u : List Nat} (h : Lg (stf stay ++ X) u) : ∃ a b, u = a ++ b ∧ (∀ c ∈ a, c ∈ tl stay) ∧ Lg X b := by
  obtain ⟨a, b, e, h1, h2⟩ := h.split
  refine ⟨a, b, e, ?_, h2⟩
  unfold stf at h1
  split at h1
  · cases h1
    exact fun c hc => (nomatch hc)
  · exact (Lg.one_star rfl).mp h1
theorem stf_put {stay : Str} {X : List Fc} {a b : List Nat} (h : ∀ c ∈ a, c ∈ tl stay) (g : Lg X b) : Lg (stf stay ++ X) (a ++ b) := by
  refine Lg.app ?_ g
  unfold stf
  split
  · next e =>
    cases a with
    | nil => exact Lg.empty _
    | cons c a =>
      have := h c List.mem_cons_self
      rw [e] at this
      cases this
  · exact (Lg.one_star rfl).mpr h
end DW
/-! The common part: its branches joined. -/
namespace DW
open PySem PySem.Spec PyProof.Rows L2 TL
set_option autoImplicit false
structure CfOk (z : Str) (qs rs : List (List Fc)) : Prop where
  rz : ∀ r ∈ rs, Rz z r
  lang : ∀ u, (∃ r ∈ rs, Lg r u) ↔ Com qs u
  anti : Anti rs
  nd : rs.Nodup
  len : ∀ r ∈ rs, r.length ≤ 2 * totL qs + 1
  few : rs.length ≤ 3 ^ (totL qs - (qs.length - 1))
/-- a branch: its letter, the places behind it, what is found from there on, its products with their rests -/
structure Bx where
  c : Nat
  st : List (List Fc)
  R : List (List Fc)
  es : List (List Fc × List Fc)
def Bx.keys (b : Bx) : List (List Fc) := b.es.map (·.1)
structure BrOk (z : Str) (qs : List (List Fc)) (stay : Str) (b : Bx) : Prop where
  stp : pbh qs (ones [b.c]) = some b.st
  ne : b.st ≠ qs
  cz : b.c ∈ tl z
  nst : b.c ∉ tl stay
  ok : CfOk z b.st b.R
  ent : ∀ e ∈ b.es, e.2 ∈ b.R ∧ e.1 = pre stay b.c e.2
  all : ∀ r ∈ b.R, pre stay b.c r ∈ b.keys
  few : b.es.length ≤ b.R.length
def Larger (bs : List Bx) (P : List Fc) (c : Nat) (rest : List Fc) : Prop := ∃ d ∈ bs, P ∉ d.keys ∧ (pbh d.st ((false, one c) :: rest)).isSome = true
theorem BrOk.rz {z : Str} {qs : List (List Fc)} {stay : Str} {b : Bx} (B : BrOk z qs stay b) (sz : (tl stay).Sublist (tl z)) {e : List Fc × List Fc} (h : e ∈ b.es) : Rz z e.1 := by
  obtain ⟨h1, h2⟩ := B.ent e h
  rw [h2]
  exact pre_rz (B.ok.rz _ h1) B.cz sz B.nst
/-- a rest's words behind the letter -/
theorem BrOk.word {z : Str} {qs : List (List Fc)} {stay : Str} {b : Bx} (B : BrOk z qs stay b) {e : List Fc × List Fc} (h : e ∈ b.es) (w : List Nat) : Lg e.1 (b.c :: w) ↔ Lg e.2 w := by
  rw [(B.ent e h).2, pre_lg, stf_out B.nst, opt_in]
theorem BrOk.other {z : Str} {qs : List (List Fc)} {stay : Str} {b : Bx} (B : BrOk z qs stay b) {e : List Fc × List Fc} (h : e ∈ b.es) {c : Nat} (n1 : c ∉ tl stay) (n2 : c ≠ b.c) (w : List Nat) : Lg e.1 (c :: w) ↔ Lg e.2 (c :: w) := by
  rw [(B.ent e h).2, pre_lg, stf_out n1, opt_out n2]
theorem br_same {z : Str} {qs : List (List Fc)} {stay : Str} {b : Bx} (B : BrOk z qs stay b) {e e' : List Fc × List Fc} (h : e ∈ b.es) (h' : e' ∈ b.es) (i : inc e'.1 e.1 = true) : e.1 = e'.1 := by
  have q : e.2 = e'.2 := B.ok.anti e'.2 (B.ent e' h').1 e.2 (B.ent e h).1 <| by
    refine (inc_lang (fok_w1 (B.ok.rz _ (B.ent e h).1).ok) (fok_w1 (B.ok.rz _ (B.ent e' h').1).ok)).mpr fun w hw => ?_
    exact (B.word h' w).mp (inc_sound _ _ i _ ((B.word h w).mpr hw))
  rw [(B.ent e h).2, (B.ent e' h').2, q]
theorem opt_or {c : Nat} {X : List Fc} {w : List Nat} (h : Lg ((false, one c) :: X) w) : Lg X w ∨ ∃ v, w = c :: v ∧ Lg X v := by
  cases w with
  | nil => exact .inl (Lg.empty X)
  | cons x v =>
    by_cases e : x = c
    · subst e
      exact .inr ⟨v, rfl, opt_in.mp h⟩
    · exact .inl ((opt_out e).mp h)
theorem br_other {z : Str} {qs : List (List Fc)} {stay : Str} {b d : Bx} (B : BrOk z qs stay b) (D : BrOk z qs stay d) (n : b.c ≠ d.c) {e e' : List Fc × List Fc} (h : e ∈ b.es) (h' : e' ∈ d.es) (i : inc e'.1 e.1 = true) {w : List Nat} (hw : Lg ((false, one b.c) :: e.2) w) : Lg e'.2 w := by
  have key : ∀ v, Lg e.2 v → Lg e'.2 (b.c :: v) := fun v hv => (D.other h' B.nst n v).mp (inc_sound _ _ i _ ((B.word h v).mpr hv))
  rcases opt_or hw with q | ⟨v, rfl, q⟩
  · exact (key w q).tail
  · exact key v q
theorem into_any {z : Str} {q : List Fc} {zs : List (List Fc)} (wq : W1 q) (rz : ∀ q ∈ zs, Rz z q) (h : ∀ u, Lg q u → ∃ r ∈ zs, Lg r u) : ∃ q' ∈ zs, inc q' q = true := by
  obtain ⟨q', hq', l⟩ := h _ (Lg.unf ((zs.map List.length).sum + 1) q fun f hf => (wq f hf).2)
  exact ⟨q', hq', inc_complete _ q q' wq (fok_w1 (rz q' hq').ok) (by have := len_sum zs q' hq'; omega) l⟩
theorem CfOk.into {z : Str} {qs rs : List (List Fc)} (C : CfOk z qs rs) {p : List Fc} (wp : W1 p) (h : (pbh qs p).isSome = true) : ∃ r ∈ rs, inc r p = true :=
  into_any wp C.rz fun u hu => (C.lang u).mpr fun q hq => inc_sound _ _ ((pbh_inc p qs).mp h q hq) u hu
theorem CfOk.from {z : Str} {qs rs : List (List Fc)} (C : CfOk z qs rs) (wq : ∀ q ∈ qs, W1 q) {p : List Fc} (wp : W1 p) (h : ∀ u, Lg p u → ∃ r ∈ rs, Lg r u) : (pbh qs p).isSome = true :=
  (pbh_inc p qs).mpr fun q hq => (inc_lang wp (wq q hq)).mpr fun u hu => (C.lang u).mp (h u hu) q hq
/-- a dropped product is inside another one -/
theorem larger_up {z : Str} {qs : List (List Fc)} {stay : Str} (sz : (tl stay).Sublist (tl z)) {bs : List Bx} (B : ∀ b ∈ bs, BrOk z qs stay b) {b : Bx} (hb : b ∈ bs) {e : List Fc × List Fc} (h : e ∈ b.es) (L : Larger bs e.1 b.c e.2) : ∃ d ∈ bs, ∃ e' ∈ d.es, inc e'.1 e.1 = true ∧ e'.1 ≠ e.1 := by
  obtain ⟨d, hd, nk, hs⟩ := L
  have D := B d hd
  have Bb := B b hb
  have rr := Bb.ok.rz _ (Bb.ent e h).1
  have wp : W1 ((false, one b.c) :: e.2) := fun f hf => by
    rcases List.mem_cons.mp hf with rfl | hf
    · exact ⟨by show tl (one b.c) ≠ []; rw [tl_one]; simp, fun _ => rfl⟩
    · exact fok_w1 rr.ok f hf
  obtain ⟨r', hr', ir⟩ := D.ok.into wp hs
  obtain ⟨e', he', ek⟩ := List.mem_map.mp (D.all r' hr')
  refine ⟨d, hd, e', he', ?_, fun q => nk (by rw [← q]; exact List.mem_map.mpr ⟨e', he', rfl⟩)⟩
  refine (inc_lang (fok_w1 (Bb.rz sz h).ok) (fok_w1 (D.rz sz he').ok)).mpr fun u hu => ?_
  rw [show e'.1 = pre stay d.c r' from ek, pre_lg]
  rw [(Bb.ent e h).2, pre_lg] at hu
  obtain ⟨x, y, rfl, hx, hy⟩ := stf_split hu
  exact stf_put hx (.skip (inc_sound _ _ ir y hy))
theorem countP_lt' {α : Type} {p q : α → Bool} {a : α} : ∀ (l : List α), (∀ x ∈ l, p x = true → q x = true) → a ∈ l → q a = true → p a = false → l.countP p < l.countP q
  | [], _, h1, _, _ => (nomatch h1)
  | x :: l, h, h1, h2, h3 => by
    have hl : ∀ x ∈ l, p x = true → q x = true := fun y hy => h y (List.mem_cons_of_mem _ hy)
    have mono : l.countP p ≤ l.countP q := List.countP_mono_left hl
    rw [List.countP_cons, List.countP_cons]
    rcases List.mem_cons.mp h1 with rfl | h1
    · rw [h2, h3]
      simp
      omega
    · have := countP_lt' l hl h1 h2 h3
      by_cases px : p x = true
      · rw [px, h x List.mem_cons_self px]
        simp
        omega
      · have px : p x = false := by simpa using px
        rw [px]
        simp
        omega
structure Joins (z : Str) (qs : List (List Fc)) (stay : Str) (bs : List Bx) (found : List (List Fc)) : Prop where
  sz : (tl stay).Sublist (tl z)
  ok : ∀ b ∈ bs, BrOk z qs stay b
  inj : ∀ b ∈ bs, ∀ d ∈ bs, b.c = d.c → b = d
  stay_ok : ∀ c ∈ tl stay, pbh qs (ones [c]) = some qs
  full : ∀ c, c ∉ tl stay → (pbh qs (ones [c])).isSome = true → ∃ b ∈ bs, b.c = c
  mem : ∀ P, P ∈ found ↔ ∃ b ∈ bs, ∃ e ∈ b.es, e.1 = P ∧ ¬ Larger bs e.1 b.c e.2
  nd : found.Nodup
  few : found.length ≤ (bs.map fun b => b.es.length).sum
  three : bs.length ≤ 3
theorem Joins.up {z : Str} {qs : List (List Fc)} {stay : Str} {bs : List Bx} {found : List (List Fc)} (al : Alph z) (J : Joins z qs stay bs found) : ∀ (n : Nat) (P : List Fc), ((bs.map Bx.keys).flatten.countP fun x => inc x P) = n → (∃ b ∈ bs, ∃ e ∈ b.es, e.1 = P) → ∃ M ∈ found, inc M P = true := by
  intro n
  induction n using Nat.strongRecOn with
  | ind n ih =>
    rintro P hn ⟨b, hb, e, he, rfl⟩
    have Bb := J.ok b hb
    have rP := Bb.rz J.sz he
    by_cases L : Larger bs e.1 b.c e.2
    · obtain ⟨d, hd, e', he', i, ne⟩ := larger_up J.sz J.ok hb he L
      have rP' := (J.ok d hd).rz J.sz he'
      have lt : ((bs.map Bx.keys).flatten.countP fun x => inc x e'.1) < ((bs.map Bx.keys).flatten.countP fun x => inc x e.1) := by
        refine countP_lt' (a := e.1) (bs.map Bx.keys).flatten ?_ ?_ rP.self ?_
        · intro x hx ix
          obtain ⟨l, hl, hx⟩ := List.mem_flatten.mp hx
          obtain ⟨b2, hb2, rfl⟩ := List.mem_map.mp hl
          obtain ⟨e2, he2, rfl⟩ := List.mem_map.mp hx
          exact inc_trans (fok_w1 ((J.ok b2 hb2).rz J.sz he2).ok) (fok_w1 rP.ok) ix i
        · exact List.mem_flatten.mpr ⟨b.keys, List.mem_map.mpr ⟨b, hb, rfl⟩, List.mem_map.mpr ⟨e, he, rfl⟩⟩
        · cases q : inc e.1 e'.1 with
          | false => rfl
          | true => exact absurd (inc_anti al rP' rP i q) ne
      obtain ⟨M, hM, iM⟩ := ih _ (by rw [← hn]; exact lt) e'.1 rfl ⟨d, hd, e', he', rfl⟩
      have rM : Rz z M := by
        obtain ⟨b2, hb2, e2, he2, rfl, _⟩ := (J.mem M).mp hM
        exact (J.ok b2 hb2).rz J.sz he2
      exact ⟨M, hM, inc_trans (fok_w1 rM.ok) (fok_w1 rP.ok) iM i⟩
    · exact ⟨e.1, (J.mem _).mpr ⟨b, hb, e, he, rfl, L⟩, rP.self⟩
end DW
/-! The common part: what is joined is right. -/
namespace DW
open PySem PySem.Spec PyProof.Rows L2 TL
set_option autoImplicit false
theorem com_stay {qs : List (List Fc)} {stay : Str} (wq : ∀ q ∈ qs, W1 q) (h : ∀ c ∈ tl stay, pbh qs (ones [c]) = some qs) {u : List Nat} (hu : Com qs u) : ∀ a : List Nat, (∀ c ∈ a, c ∈ tl stay) → Com qs (a ++ u)
  | [], _ => hu
  | c :: a, ha => (com_step c (a ++ u) qs wq).mpr ⟨qs, h c (ha c List.mem_cons_self), com_stay wq h hu a fun d hd => ha d (List.mem_cons_of_mem _ hd)⟩
theorem com_split {qs : List (List Fc)} {stay : Str} (wq : ∀ q ∈ qs, W1 q) (h : ∀ c ∈ tl stay, pbh qs (ones [c]) = some qs) : ∀ u : List Nat, Com qs u → ∃ a b, u = a ++ b ∧ (∀ c ∈ a, c ∈ tl stay) ∧ Com qs b ∧ ∀ d v, b = d :: v → d ∉ tl stay
  | [], hu => ⟨[], [], rfl, fun c hc => (nomatch hc), hu, fun d v e => (nomatch e)⟩
  | c :: u, hu => by
    by_cases q : c ∈ tl stay
    · obtain ⟨rs, e, hr⟩ := (com_step c u qs wq).mp hu
      rw [h c q] at e
      cases e
      obtain ⟨a, b, rfl, h1, h2, h3⟩ := com_split wq h u hr
      refine ⟨c :: a, b, rfl, fun x hx => ?_, h2, h3⟩
      rcases List.mem_cons.mp hx with rfl | hx
      · exact q
      · exact h1 x hx
    · exact ⟨[], c :: u, rfl, fun c hc => (nomatch hc), hu, fun d v e => by cases e; exact q⟩
theorem step_ne {c : Nat} : ∀ {qs rs : List (List Fc)}, pbh qs (ones [c]) = some rs → qs.length ≤ totL qs
  | [], _, _ => Nat.le_refl _
  | q :: qs, rs, h => by
    obtain ⟨r, rs', h1, h2, rfl⟩ := pbh_some h
    have ih := step_ne h2
    have t2 : totL (q :: qs) = q.length + totL qs := List.sum_cons
    rw [t2, List.length_cons]
    cases q with
    | nil => rw [show ones [c] = [(false, one c)] from rfl, rst_none] at h1; cases h1
    | cons g q =>
      rw [List.length_cons]
      omega
theorem BrOk.down {z : Str} {qs : List (List Fc)} {stay : Str} {b : Bx} (B : BrOk z qs stay b) : totL b.st + 1 ≤ totL qs ∧ b.st.length = qs.length ∧ qs.length ≤ totL qs := by
  obtain ⟨h1, _, h3, h4⟩ := pbh_suf B.stp
  refine ⟨?_, h1, step_ne B.stp⟩
  rcases Nat.lt_or_ge (totL b.st) (totL qs) with h | h
  · exact h
  · exact absurd (h4 (by omega)) B.ne
theorem sum_le {α : Type} (f : α → Nat) (n : Nat) : ∀ l : List α, (∀ x ∈ l, f x ≤ n) → (l.map f).sum ≤ l.length * n
  | [], _ => Nat.zero_le _
  | x :: l, h => by
    have := sum_le f n l fun y hy => h y (List.mem_cons_of_mem _ hy)
    have := h x List.mem_cons_self
    rw [List.map_cons, List.sum_cons, List.length_cons, Nat.succ_mul]
    omega
theorem BrOk.in_com {z : Str} {qs : List (List Fc)} {stay : Str} {b : Bx} (B : BrOk z qs stay b) (wq : ∀ q ∈ qs, W1 q) (so : ∀ c ∈ tl stay, pbh qs (ones [c]) = some qs) {e : List Fc × List Fc} (h : e ∈ b.es) {u : List Nat} (hu : Lg e.1 u) : Com qs u := by
  rw [(B.ent e h).2, pre_lg] at hu
  obtain ⟨x, y, rfl, hx, hy⟩ := stf_split hu
  refine com_stay wq so ?_ x hx
  have key : ∀ v, Lg e.2 v → Com qs (b.c :: v) := fun v hv => (com_step b.c v qs wq).mpr ⟨b.st, B.stp, (B.ok.lang v).mp ⟨e.2, (B.ent e h).1, hv⟩⟩
  rcases opt_or hy with q | ⟨v, rfl, q⟩
  · exact com_tail (key y q)
  · exact key v q
theorem Joins.cf {z : Str} {qs : List (List Fc)} {stay : Str} {bs : List Bx} {found : List (List Fc)} (al : Alph z) (ok : ∀ q ∈ qs, ∀ f ∈ q, FOk z f) (J : Joins z qs stay bs found) (ne : bs ≠ []) : CfOk z qs found := by
  have wq : ∀ q ∈ qs, W1 q := fun q hq => fok_w1 (ok q hq)
  have fz : ∀ P ∈ found, ∃ b ∈ bs, ∃ e ∈ b.es, e.1 = P ∧ BrOk z qs stay b := fun P hP => by
    obtain ⟨b, hb, e, he, rfl, _⟩ := (J.mem P).mp hP
    exact ⟨b, hb, e, he, rfl, J.ok b hb⟩
  obtain ⟨b0, hb0⟩ : ∃ b, b ∈ bs := by
    cases bs with
    | nil => exact absurd rfl ne
    | cons b l => exact ⟨b, List.mem_cons_self⟩
  have B0 := J.ok b0 hb0
  refine ⟨fun P hP => ?_, fun u => ⟨fun ⟨P, hP, hu⟩ => ?_, fun hu => ?_⟩, fun P hP P' hP' i => ?_, J.nd, fun P hP => ?_, ?_⟩
  · obtain ⟨b, hb, e, he, rfl, B⟩ := fz P hP
    exact B.rz J.sz he
  · obtain ⟨b, hb, e, he, rfl, B⟩ := fz P hP
    exact B.in_com wq J.stay_ok he hu
  · have step : ∃ b ∈ bs, ∃ e ∈ b.es, Lg e.1 u := by
      obtain ⟨a, y, rfl, ha, hy, hd⟩ := com_split wq J.stay_ok u hu
      cases y with
      | nil =>
        obtain ⟨r, hr, hl⟩ := (B0.ok.lang []).mpr (com_nil _)
        obtain ⟨e, he, ek⟩ := List.mem_map.mp (B0.all r hr)
        refine ⟨b0, hb0, e, he, ?_⟩
        rw [ek, pre_lg]
        exact stf_put ha (Lg.empty _)
      | cons d v =>
        obtain ⟨st, e1, hv⟩ := (com_step d v qs wq).mp hy
        obtain ⟨b, hb, rfl⟩ := J.full d (hd d v rfl) (by rw [e1]; rfl)
        have B := J.ok b hb
        have est : b.st = st := Option.some.inj (B.stp.symm.trans e1)
        subst est
        obtain ⟨r, hr, hl⟩ := (B.ok.lang v).mpr hv
        obtain ⟨e, he, ek⟩ := List.mem_map.mp (B.all r hr)
        refine ⟨b, hb, e, he, ?_⟩
        rw [ek, pre_lg]
        exact stf_put ha (opt_in.mpr hl)
    obtain ⟨b, hb, e, he, hl⟩ := step
    obtain ⟨M, hM, iM⟩ := J.up al _ e.1 rfl ⟨b, hb, e, he, rfl⟩
    exact ⟨M, hM, inc_sound _ _ iM _ hl⟩
  · obtain ⟨d, hd, e', he', rfl, _⟩ := (J.mem P).mp hP
    obtain ⟨b, hb, e, he, rfl, nl⟩ := (J.mem P').mp hP'
    have B := J.ok b hb
    have D := J.ok d hd
    by_cases c : b.c = d.c
    · have := J.inj b hb d hd c
      subst this
      exact br_same B he he' i
    · by_cases k : e.1 ∈ d.keys
      · obtain ⟨e2, he2, ek⟩ := List.mem_map.mp k
        rw [← ek] at i ⊢
        exact br_same D he2 he' i
      · refine absurd ⟨d, hd, k, ?_⟩ nl
        have rr := B.ok.rz _ (B.ent e he).1
        have wp : W1 ((false, one b.c) :: e.2) := fun f hf => by
          rcases List.mem_cons.mp hf with rfl | hf
          · exact ⟨by show tl (one b.c) ≠ []; rw [tl_one]; simp, fun _ => rfl⟩
          · exact fok_w1 rr.ok f hf
        exact D.ok.from (fun q hq => fok_w1 (pbh_ok D.stp ok q hq)) wp fun u hu => ⟨e'.2, (D.ent e' he').1, br_other B D c he he' i hu⟩
  · obtain ⟨b, hb, e, he, rfl, B⟩ := fz P hP
    have := B.down
    have h1 := B.ok.len _ (B.ent e he).1
    rw [(B.ent e he).2]
    have := pre_len stay b.c e.2
    omega
  · have d0 := B0.down
    have each : ∀ b ∈ bs, b.es.length ≤ 3 ^ (totL qs - 1 - (qs.length - 1)) := fun b hb => by
      have B := J.ok b hb
      obtain ⟨h1, h2, _⟩ := B.down
      refine Nat.le_trans B.few (Nat.le_trans B.ok.few (Nat.pow_le_pow_right (by decide) ?_))
      omega
    have s := sum_le (fun b : Bx => b.es.length) _ bs each
    have e : totL qs - (qs.length - 1) = totL qs - 1 - (qs.length - 1) + 1 := by omega
    rw [e, Nat.pow_succ]
    have h3 := J.three
    refine Nat.le_trans J.few (Nat.le_trans s ?_)
    rw [Nat.mul_comm]
    exact Nat.mul_le_mul_left _ h3
/-- no branch at all -/
theorem lone_cf {z : Str} {qs : List (List Fc)} {stay : Str} (ok : ∀ q ∈ qs, ∀ f ∈ q, FOk z f) (sz : (tl stay).Sublist (tl z)) (so : ∀ c ∈ tl stay, pbh qs (ones [c]) = some qs) (full : ∀ c, c ∉ tl stay → (pbh qs (ones [c])).isSome = false) : CfOk z qs [stf stay] := by
  have wq : ∀ q ∈ qs, W1 q := fun q hq => fok_w1 (ok q hq)
  have l1 : (stf stay).length ≤ 1 := by
    unfold stf
    split
    · exact Nat.zero_le _
    · exact Nat.le_refl _
  refine ⟨fun r hr => ?_, fun u => ⟨fun ⟨r, hr, hu⟩ => ?_, fun hu => ⟨_, List.mem_singleton.mpr rfl, ?_⟩⟩, fun a ha b hb _ => by rw [List.mem_singleton.mp ha, List.mem_singleton.mp hb], by simp, fun r hr => by rw [List.mem_singleton.mp hr]; omega, Nat.pow_pos (by decide)⟩
  · rw [List.mem_singleton.mp hr]
    unfold stf
    split
    · exact ⟨fun f hf => (nomatch hf), trivial⟩
    · next h =>
      refine ⟨fun f hf => ?_, trivial⟩
      rw [List.mem_singleton.mp hf]
      exact ⟨h, sz, fun e => by cases e⟩
  · rw [List.mem_singleton.mp hr] at hu
    have hu : Lg (stf stay ++ []) u := by rw [List.append_nil]; exact hu
    obtain ⟨a, b, rfl, ha, hb⟩ := stf_split hu
    cases hb
    exact com_stay wq so (com_nil _) a ha
  · obtain ⟨a, b, rfl, ha, hb, hd⟩ := com_split wq so u hu
    have e : b = [] := by
      cases b with
      | nil => rfl
      | cons d v =>
        obtain ⟨rs, e, _⟩ := (com_step d v qs wq).mp hb
        have := full d (hd d v rfl)
        rw [e] at this
        cases this
    subst e
    have := stf_put (X := []) ha (Lg.empty [])
    rw [List.append_nil] at this
    exact this
end DW
/-! in_front, places_behind -/
namespace DW
open PySem PySem.Spec PyProof.Rows L2 TL
set_option autoImplicit false
def spInf (K : PySem.W.Frag) : Sp := fun vs H Q _ => ∃ (x y : V) (f : Fc) (p : List Fc), vs = [x, y] ∧ IsF K H x f ∧ IsP K H y p ∧ (ls f).length ≤ 1000 ∧ p.length ≤ 10000 ∧ ∀ H' v, Same H H' → IsP K H' v (infr f p) → Q v H'
/-- the places of suffixes -/
def plc : List (List Fc) → List (List Fc) → List Int
  | o :: os, q :: qs => ((o.length - q.length : Nat) : Int) :: plc os qs
  | _, _ => []
def Suf : List (List Fc) → List (List Fc) → Prop
  | [], [] => True
  | o :: os, q :: qs => q <:+ o ∧ Suf os qs
  | _, _ => False
theorem Suf.len : ∀ {os qs : List (List Fc)}, Suf os qs → os.length = qs.length
  | [], [], _ => rfl
  | _ :: _, _ :: _, h => by rw [List.length_cons, List.length_cons, Suf.len h.2]
  | [], _ :: _, h => h.elim
  | _ :: _, [], h => h.elim
theorem Suf.get : ∀ {os qs : List (List Fc)}, Suf os qs → ∀ (i : Nat) (o : List Fc), os[i]? = some o → ∃ q, qs[i]? = some q ∧ q <:+ o ∧ (plc os qs)[i]? = some ((o.length - q.length : Nat) : Int)
  | [], [], _, i, o, h => by simp at h
  | a :: os, b :: qs, s, 0, o, h => by
    have e := Option.some.inj h
    subst e
    exact ⟨b, rfl, s.1, rfl⟩
  | a :: os, b :: qs, s, i + 1, o, h => Suf.get s.2 i o h
theorem plc_len : ∀ {os qs : List (List Fc)}, Suf os qs → (plc os qs).length = qs.length
  | [], [], _ => rfl
  | _ :: _, _ :: _, h => by
    show (plc _ _).length + 1 = _
    rw [plc_len h.2]
    rfl
  | [], _ :: _, h => h.elim
  | _ :: _, [], h => h.elim
theorem plc_snoc (o q : List Fc) : ∀ {os qs : List (List Fc)}, os.length = qs.length → plc (os ++ [o]) (qs ++ [q]) = plc os qs ++ [((o.length - q.length : Nat) : Int)]
  | [], [], _ => rfl
  | a :: os, b :: qs, h => by
    show _ :: plc (os ++ [o]) (qs ++ [q]) = _
    rw [plc_snoc o q (Nat.succ.inj h)]
    rfl
  | [], _ :: _, h => by cases h
  | _ :: _, [], h => by cases h
theorem pbh_snoc {q r p : List Fc} (h : rst q p = some r) : ∀ {qs rs : List (List Fc)}, pbh qs p = some rs → pbh (qs ++ [q]) p = some (rs ++ [r])
  | [], rs, e => by
    cases e
    exact pbh_put h rfl
  | a :: qs, rs, e => by
    obtain ⟨r1, rs1, h1, h2, rfl⟩ := pbh_some e
    exact pbh_put h1 (pbh_snoc h h2)
theorem pbh_no {qs : List (List Fc)} {q p : List Fc} (hq : q ∈ qs) (h : rst q p = none) : pbh qs p = none := by
  cases e : pbh qs p with
  | none => rfl
  | some rs =>
    have := (pbh_inc p qs).mp (by rw [e]; rfl) q hq
    rw [← rst_inc, h] at this
    cases this
theorem Suf.pbh {p : List Fc} : ∀ {os qs rs : List (List Fc)}, Suf os qs → pbh qs p = some rs → Suf os rs
  | [], [], rs, _, h => by
    cases h
    trivial
  | o :: os, q :: qs, rs, s, h => by
    obtain ⟨r, rs', h1, h2, rfl⟩ := pbh_some h
    exact ⟨(rst_suf q p r h1).trans s.1, Suf.pbh s.2 h2⟩
  | [], _ :: _, _, h, _ => h.elim
  | _ :: _, [], _, h, _ => h.elim
def spPbh (K : PySem.W.Frag) : Sp := fun vs H Q _ => ∃ (x : V) (l t : Addr) (p : List Fc) (ovs : List V) (os qs : List (List Fc)), vs = [x, .ref l, .ref t] ∧ IsP K H x p ∧ SqL K H l ovs ∧ IsL K H ovs os ∧ SqT K H t ((plc os qs).map V.int) ∧ Suf os qs ∧ (∀ f ∈ p, Low f) ∧ (∀ o ∈ os, ∀ f ∈ o, Low f) ∧ os.length ≤ 1000 ∧
  (pbh qs p = none → ∀ H', Same H H' → Q .non H') ∧ (∀ rs, pbh qs p = some rs → ∀ H' u, Same H H' → H' u = some (.tup ((plc os rs).map V.int)) → Q (.ref u) H')
section
variable {P : Program} {w : World} {K : PySem.W.Frag} {mg : Str → Option Value} {base : Heap}
theorem scInf : FnScope ["factor", "product"] ["factor", "product"] (defScope sInFront) := ⟨rfl, rfl, rfl, by decide +kernel, rfl, by decide +kernel, by decide +kernel⟩
theorem ok_inf (D : Df K mg "in_front" sInFront ["factor", "product"]) (Ds0 : Df K mg "swallows" sSwallows ["factor", "other"]) (ma : mg "all" = none) : FnOk P w K mg base CX0 2 D.f D.fd ["factor", "product"] (spInf K) := by
  have Gs : FnOk P w K mg base CX0 1 Ds0.f Ds0.fd ["factor", "other"] (spSw K) := ok_sw Ds0 ma
  refine D.F.ok scInf (fun vs H Q E h => ?_) (fun cdv A outer s H vs Q E hr h => ?_)
  · obtain ⟨x, y, f, p, rfl, _⟩ := h
    rfl
  · obtain ⟨x, y, f, p, rfl, isf, ⟨a, xs, rfl, ha, iF⟩, fl, pl, k⟩ := h
    have hr1 : Room 1 _ := hr.mono (by decide)
    have xl := iF.len
    refine ⟨_, PSs.nox (pss_cons (ps_if (pw_and (pt_truth (pv 1) (by intro _; rfl)) (pw_and1 (pt_val (pe_call Gs hr1 (by rfl) Ds0.g Ds0.F.kp Ds0.b .nil pass0 (pa_cons (pe_ix (r := rIxT K) (by exact ix_tup) (pv 1) pe_int (fun _ _ => rfl)) (pa_cons (pv 0) pa_nil)))))).pt (pss_one (ps_ret (pv 1))) pss_nil) (pss_one (ps_ret (pe_tup (pa_cons (pv 0) (ND.pa_starT (pv 1))))))), ?_⟩
    have tail : ∀ H1, Same H H1 → infr f p = f :: p → (∃ a' xs', V.ref a = V.ref a' ∧ SqT K H1 a' xs' ∧ (xs'.length + 1 ≤ sizeLine ∧ ∀ q, H1 q = none → Q (.ref q) (upd H1 q (.tup (x :: xs'))))) := fun H1 s1 e => by
      refine ⟨a, xs, rfl, same_tup s1 _ _ ha, by rw [xl, sizeLine_eq]; omega, fun q hq => ?_⟩
      have s2 := same_upd (o := .tup (x :: xs)) hq
      refine k _ _ (s1.trans s2) ⟨q, x :: xs, rfl, SqT.of upd_same, ?_⟩
      rw [e]
      exact .cons (isf.mono (same_tup (s1.trans s2))) (iF.mono (same_tup (s1.trans s2)))
    cases p with
    | nil =>
      cases iF
      refine ⟨.ref a, rfl, false, .inr (.inl ⟨_, ha, rfl⟩), iteF ?_⟩
      exact ⟨x, rfl, .ref a, rfl, tail _ (Same.refl _) rfl⟩
    | cons g r =>
      cases iF with
      | cons isg iR =>
      refine ⟨.ref a, rfl, true, .inr (.inl ⟨_, ha, rfl⟩), iteT ?_⟩
      refine ⟨.ref a, rfl, a, _, 0, _, rfl, rfl, ha, atI_nat (j := 0) rfl, x, rfl, _, x, g, f, rfl, isg, isf, fl, fun H1 s1 => ⟨_, rfl, ite2 (fun e => ?_) (fun e => ?_)⟩⟩
      · refine ⟨_, rfl, k _ _ s1 ⟨a, _, rfl, same_tup s1 _ _ ha, ?_⟩⟩
        rw [infr_cons, if_pos e]
        exact (IsFs.cons isg iR).mono (same_tup s1)
      · exact ⟨x, rfl, .ref a, rfl, tail _ s1 (by rw [infr_cons, if_neg e])⟩
theorem scPbh : FnScope ["product", "others", "places", "found", "other", "place", "after"] ["product", "others", "places"] (defScope sPlacesBehind) := ⟨rfl, rfl, rfl, by decide +kernel, rfl, by decide +kernel, by decide +kernel⟩
theorem ok_pbh (D : Df K mg "places_behind" sPlacesBehind ["product", "others", "places"]) (Dp : Df K mg "place_behind" sPlaceBehind ["product", "other", "start"]) (Db : Df K mg "behind" sBehind ["product", "place"]) (Dc : Df K mg "covers" sCovers ["factor", "other"]) (Ds0 : Df K mg "swallows" sSwallows ["factor", "other"]) (ma : mg "all" = none) (ml : mg "len" = none) (mt : mg "tuple" = none) (mz : mg "zip" = none) :
    FnOk P w K mg base CX0 4 D.f D.fd ["product", "others", "places"] (spPbh K) := by
  have Gp : FnOk P w K mg base CX0 3 Dp.f Dp.fd ["product", "other", "start"] (spPlc K) := ok_plc Dp Db Dc Ds0 ma ml
  refine D.F.ok scPbh (fun vs H Q E h => ?_) (fun cdv A outer s H vs Q E hr h => ?_)
  · obtain ⟨x, l, t, p, ovs, os, qs, rfl, _⟩ := h
    rfl
  · obtain ⟨x, l, t, p, ovs, os, qs, rfl, isp, hl, iL, ht, su, lp, lo, ol, kn, ks⟩ := h
    have hr3 : Room 3 _ := hr.mono (by decide)
    have ovl := iL.len
    have pcl := plc_len su
    have sul := su.len
    refine ⟨_, PSs.nox (pss_cons (ps_set (i := 3) scPbh.nd rfl (.inl rfl) (pe_lst pa_nil)) (pss_cons (ps_for PassesOwn.never rfl (ZL.pi_zipLT rfl mz (pa_cons (pv 1) (pa_cons (pv 2) pa_nil))) (pg_tup rfl (pgs_cons (pg_name (i := 4) scPbh.nd rfl (.inl rfl)) (pgs_cons (pg_name (i := 5) scPbh.nd rfl (.inl rfl)) pgs_nil))) (pss_cons (ps_set (i := 6) scPbh.nd rfl (.inl rfl) (pe_call Gp hr3 (by rfl) Dp.g Dp.F.kp Dp.b .nil pass0 (pa_cons (pv 0) (pa_cons (pv 4) (pa_cons (pv 5) pa_nil))))) (pss_cons (ps_if (pt_cmpR op_isN (pv 6) pe_non (nomark _)) (pss_one (ps_ret pe_non)) pss_nil) (pss_one (ps_expr (pe_bm PySem.F.plainAttrs_list PySem.F.slot_list_append PySem.F.type_list_append mt_append (pv 3) (pa_cons (pv 6) pa_nil))))))) (pss_one (ps_ret (pe_callTy call_tuple_of (by rfl) mt (by decide +kernel) (pa_cons (pv 3) pa_nil)))))), ?_⟩
    refine ⟨by show 0 ≤ sizeLine; decide, fun L hL => ?_⟩
    have sL := same_upd (o := .lst []) hL
    refine ⟨.ref l, rfl, .ref t, rfl, l, t, ovs, (plc os qs).map V.int, rfl, same_lst sL hl, same_tup sL _ _ ht, ?_⟩
    refine for_it (ZL.walk_zipLT (n := os.length) (by rw [List.length_map]; omega)) (fun i σ H' => ∃ (rs : List (List Fc)) (y4 y5 y6 : Option V), σ = [some x, some (.ref l), some (.ref t), some (.ref L), y4, y5, y6] ∧ H' L = some (.lst ((plc (os.take i) rs).map V.int)) ∧ pbh (qs.take i) p = some rs ∧ Same H H') ⟨[], _, _, _, rfl, by rw [upd_same]; rfl, rfl, sL⟩ (fun _ _ _ _ ⟨_, _, _, _, _, _, _, sm⟩ => ⟨same_lst sm hl, same_tup sm _ _ ht⟩) ?_ ?_
    · rintro i v σ G G' hi ⟨rs, y4, y5, y6, rfl, gL, hp, sm⟩ ⟨Tz, x5, x6, rfl, hTz, rfl, h5, h6⟩
      have sT := same_upd (o := .tup [x5, x6]) hTz
      obtain ⟨o, ho, iso⟩ := iL.get i x5 h5
      obtain ⟨q, hq, sq, hpl⟩ := su.get i o ho
      have h6 : ((plc os qs).map V.int)[i]? = some x6 := h6
      rw [List.getElem?_map, hpl] at h6
      cases h6
      have om := List.mem_of_getElem? ho
      have qm := List.mem_of_getElem? hq
      have smT := sm.trans sT
      refine ⟨Tz, [x5, _], rfl, SqT.of upd_same, rfl, _, _, rfl, _, _, rfl, rfl, ?_⟩
      refine ⟨x, rfl, x5, rfl, _, rfl, x, x5, p, o, o.length - q.length, rfl, isp.mono (same_tup smT), iso.mono (same_tup smT), Nat.sub_le _ _, lp, lo o om, fun H2 s2 => ?_⟩
      rw [suf_drop sq]
      have sm2 := smT.trans s2
      cases e : rst q p with
      | none =>
        refine ⟨_, rfl, rfl, _, rfl, iteT ?_⟩
        exact kn (pbh_no qm e) _ sm2
      | some r =>
        refine ⟨_, rfl, rfl, _, rfl, iteF ?_⟩
        have gL2 := s2 _ _ (sT _ _ gL)
        have ltk : (os.take i).length = rs.length := by
          have := (pbh_suf hp).1
          rw [List.length_take] at this ⊢
          omega
        have plcL : (plc (os.take i) rs).length < sizeLine := by
          have : ∀ {a b : List (List Fc)}, (plc a b).length ≤ a.length := by
            intro a
            induction a with
            | nil => intro b; exact Nat.le_refl _
            | cons o a ih =>
              intro b
              cases b with
              | nil => exact Nat.zero_le _
              | cons q b => exact Nat.succ_le_succ ih
          have h2 := this (a := os.take i) (b := rs)
          rw [List.length_take] at h2
          rw [sizeLine_eq]
          omega
        refine ⟨.ref L, rfl, .inl ⟨rfl, _, SqL.of gL2⟩, _, rfl, L, _, _, rfl, rfl, gL2, by rw [List.length_map]; exact plcL, rs ++ [r], _, _, _, rfl, ?_, ?_, fun b o e => (upd_ne (ne_of_none e hL)).trans (sm2 _ _ e)⟩
        · rw [upd_same, List.take_add_one, ho]
          show _ = some (HO.lst ((plc (os.take i ++ [o]) (rs ++ [r])).map V.int))
          rw [plc_snoc o r ltk, List.map_append]
          rfl
        · rw [List.take_add_one, hq]
          exact pbh_snoc e hp
    · rintro σ G ⟨rs, y4, y5, y6, rfl, gL, hp, sm⟩
      rw [List.take_length] at gL
      rw [sul, List.take_length] at hp
      refine ⟨.ref L, rfl, L, _, rfl, .inl ⟨SqL.of gL, fun u hu => ?_⟩⟩
      exact ks rs hp _ u (sm.trans (same_upd hu)) upd_same
end
end DW
/-! letters of texts; equal products -/
namespace DW
open PySem PySem.Spec PyProof.Rows L2 TL
set_option autoImplicit false
def LtOf (fs : List Fc) (r : Str) : Prop := (tl r).Pairwise (· < ·) ∧ ∀ c, c ∈ tl r ↔ ∃ f ∈ fs, c ∈ ls f
theorem nodup_len {α : Type} [DecidableEq α] : ∀ (l m : List α), l.Nodup → (∀ x ∈ l, x ∈ m) → l.length ≤ m.length
  | [], _, _, _ => Nat.zero_le _
  | a :: l, m, nd, h => by
    obtain ⟨na, nd⟩ := List.nodup_cons.mp nd
    have hm := h a List.mem_cons_self
    have q := nodup_len l (m.erase a) nd fun x hx => (List.mem_erase_of_ne (by intro e; subst e; exact na hx)).mpr (h x (List.mem_cons_of_mem _ hx))
    rw [List.length_erase_of_mem hm] at q
    have := List.length_pos_of_mem hm
    rw [List.length_cons]
    omega
theorem signs_mem {x k : Str} : k ∈ TX.signs x ↔ ∃ c ∈ tl x, k = one c := by
  unfold TX.signs
  rw [List.mem_map]
  exact ⟨fun ⟨c, h, e⟩ => ⟨c, h, e.symm⟩, fun ⟨c, h, e⟩ => ⟨c, h, e.symm⟩⟩
/-- sorted(set(x)) joined -/
theorem set_lets {x : Str} {ls ys : List Str} (nd : ls.Nodup) (mem : ∀ k, k ∈ ls ↔ k ∈ TX.signs x) (pm : ys.Perm ls) (so : sortedS ys = true) :
    (tl (Txt.join "" ys)).Pairwise (· < ·) ∧ (∀ c, c ∈ tl (Txt.join "" ys) ↔ c ∈ tl x) ∧ ∀ y ∈ ys, ∃ c, y = one c := by
  have my : ∀ k, k ∈ ys ↔ k ∈ TX.signs x := fun k => (pm.mem_iff).trans (mem k)
  have h1 : ∀ y ∈ ys, ∃ c, y = one c := fun y hy => by
    obtain ⟨c, _, e⟩ := signs_mem.mp ((my y).mp hy)
    exact ⟨c, e⟩
  obtain ⟨cs, rfl, pw⟩ := sorted_ones ys h1 (pm.nodup_iff.mpr nd) so
  have ej : tl (Txt.join "" (cs.map one)) = cs := by rw [tl_cat, flat_ones]
  refine ⟨by rw [ej]; exact pw, fun c => ?_, h1⟩
  rw [ej]
  constructor
  · intro h
    obtain ⟨d, hd, e⟩ := signs_mem.mp ((my (one c)).mp (List.mem_map.mpr ⟨c, h, rfl⟩))
    have e' : tl (one c) = tl (one d) := congrArg tl e
    rw [tl_one, tl_one] at e'
    rw [(List.cons.inj e').1]
    exact hd
  · intro h
    obtain ⟨d, hd, e⟩ := List.mem_map.mp ((my (one c)).mpr (signs_mem.mpr ⟨c, h, rfl⟩))
    have e' : tl (one d) = tl (one c) := congrArg tl e
    rw [tl_one, tl_one] at e'
    rw [← (List.cons.inj e').1]
    exact hd
end DW
/-! letters_of a tuple -/
namespace DW
open PySem PySem.Spec PyProof.Rows L2 TL
set_option autoImplicit false
def spLofT (K : PySem.W.Frag) : Sp := fun vs H Q _ => ∃ (a : Addr) (x : Str) (xs : List V) (fs : List Fc), vs = [.ref a] ∧ SqT K H a xs ∧ IsFs K H xs fs ∧ (∀ f ∈ fs, ∀ c ∈ ls f, c ∈ tl x) ∧ (tl x).length ≤ 60 ∧ fs.length ≤ 60 ∧ ((fs.map ls).flatten).length ≤ 60 ∧
  ∀ H' y, Same H H' → LtOf fs y → Q (.str y) H'
section
variable {P : Program} {w : World} {K : PySem.W.Frag} {mg : Str → Option Value} {base : Heap}
theorem scLofT : FnScope ["factors", "kind", "letters"] ["factors"] (defScope sLettersOf) := ⟨rfl, rfl, rfl, by decide +kernel, rfl, by decide +kernel, by decide +kernel⟩
theorem ok_lofT (D : Df K mg "letters_of" sLettersOf ["factors"]) (ms : mg "sorted" = none) (mt : mg "set" = none) : FnOk P w K mg base CX0 1 D.f D.fd ["factors"] (spLofT K) := by
  refine D.F.ok scLofT (fun vs H Q E h => ?_) (fun cdv A outer s H vs Q E hr h => ?_)
  · obtain ⟨a, z, xs, fs, rfl, _⟩ := h
    rfl
  · obtain ⟨a, x, xs, fs, rfl, ha, iF, sub, x60, f60, big60, k⟩ := h
    have xl := iF.len
    have sl := sizeLine_eq
    have sz : ∀ y : Str, y.length = (tl y).length := fun y => (Array.length_toList).symm
    refine ⟨_, (pss_one (ps_ret (pe_join pe_str (pe_callB (TX.cr_sortTx rfl) (by rfl) ms (by decide +kernel) (pa_cons (pe_callTy (TX.cr_setT rfl) (by rfl) mt (by decide +kernel) (pa_cons (pe_join pe_str (pe_lc (own := [("kind", 1), ("letters", 2)]) (g := gTup K 2 (gCons (gName 1) (gCons (gName 2) gNil))) rfl scLofT.nd (pi_tup (pv 0)) (blkOk_by (N := ["factors", "kind", "letters"]) (sc := defScope sLettersOf) (by decide +kernel)) (fun _ _ _ _ _ => (pg_tup rfl (pgs_cons (pg_name (i := 1) scLofT.nd rfl (.inl rfl)) (pgs_cons (pg_name (i := 2) scLofT.nd rfl (.inl rfl)) pgs_nil)))) (fun _ _ _ _ _ => pts_nil) (fun _ _ _ _ _ => (pv 2)))) pa_nil)) pa_nil))))), ?_⟩
    refine ⟨⟨_, rfl⟩, ⟨_, rfl⟩, .ref a, rfl, a, rfl, ⟨_, ha⟩, fun L hL => ?_⟩
    refine lc_it (walk_tup (xs := xs)) (fun i H' => H' L = some (.lst ((fs.take i).map fun f => V.str f.2)) ∧ Same H H') ⟨upd_same, same_upd hL⟩ (fun _ _ _ ⟨_, sm⟩ => same_tup sm _ _ ha) ?_ ?_
    · rintro i y G G' hi ⟨gL, sm⟩ ⟨rfl, hx⟩
      obtain ⟨f, hf, b, rfl, isf⟩ := iF.get i y hx
      refine ⟨b, _, rfl, same_tup sm _ _ isf, rfl, _, _, rfl, _, _, rfl, rfl, rfl, yes ⟨_, rfl, _, gL, ?_, ?_, fun b o e => (upd_ne (ne_of_none e hL)).trans (sm _ _ e)⟩⟩
      · rw [List.length_map, List.length_take]
        omega
      · rw [upd_same, List.take_add_one, hf, List.map_append]
        rfl
    · rintro G ⟨gL, sm⟩
      rw [xl, List.take_length] at gL
      have e1 : (fs.map fun f => V.str f.2) = (fs.map fun f => f.2).map V.str := by rw [List.map_map]; rfl
      rw [e1] at gL
      have e0 : ("" : Str).length = 0 := rfl
      have tj : tl (Txt.join "" (fs.map fun f => f.2)) = (fs.map ls).flatten := by rw [tl_cat, List.map_map]; rfl
      have bd : ((fs.map fun f => f.2).map (·.length)).sum = ((fs.map ls).flatten).length := by
        rw [List.length_flatten, List.map_map, List.map_map]
        exact congrArg List.sum (List.map_congr_left fun f _ => sz _)
      refine ⟨"", L, fs.map fun f => f.2, rfl, rfl, .inl (SqL.of gL), by rw [e0, Nat.mul_zero, bd]; omega, ?_⟩
      have tlen : (tl (Txt.join "" (fs.map fun f => f.2))).length ≤ 60 := by rw [tj]; exact big60
      generalize Txt.join "" (fs.map fun f => f.2) = big at tj tlen ⊢
      refine ⟨big, rfl, by rw [sz]; unfold scanBound; omega, fun a2 ks ha2 nd mem le => ?_⟩
      have s2 := same_upd (o := TX.SetTx P w a2 ks) ha2
      have kl : ks.length ≤ 60 := by
        have sub : ∀ k ∈ ks, k ∈ (tl x).map one := fun k hk => by
          obtain ⟨c, hc, e⟩ := signs_mem.mp ((mem k).mp hk)
          rw [tj] at hc
          obtain ⟨l, hl, hc⟩ := List.mem_flatten.mp hc
          obtain ⟨f, hf, rfl⟩ := List.mem_map.mp hl
          exact List.mem_map.mpr ⟨c, sub f hf c hc, e.symm⟩
        have := nodup_len ks _ nd sub
        rw [List.length_map] at this
        exact Nat.le_trans this x60
      refine ⟨a2, ks, rfl, upd_same, by omega, fun ys p pm so hp => ?_⟩
      have s3 := same_upd (o := .lst (ys.map V.str)) hp
      obtain ⟨pw, mc, on⟩ := set_lets nd mem pm so
      refine ⟨"", p, ys, rfl, rfl, .inl (SqL.of upd_same), ?_, k _ _ ((sm.trans s2).trans s3) ⟨pw, fun c => ?_⟩⟩
      · rw [sum_ones ys on, pm.length_eq, e0, Nat.mul_zero]
        omega
      · rw [mc, tj, List.mem_flatten]
        constructor
        · rintro ⟨l, hl, hc⟩
          obtain ⟨f, hf, rfl⟩ := List.mem_map.mp hl
          exact ⟨f, hf, hc⟩
        · rintro ⟨f, hf, hc⟩
          exact ⟨_, List.mem_map.mpr ⟨f, hf, rfl⟩, hc⟩
end
end DW
/-! places_by_letter -/
namespace DW
open PySem PySem.Spec PyProof.Rows L2 TL
set_option autoImplicit false
/-- a dict made by a comprehension -/
theorem dc_it {J : It} {n : Nat} {G : Hp → Prop} {Y : Nat → Hp → V → Hp → Prop} (w : Walk J n G Y) {g : TG} {tt : TT} {tk tv : TE} {vs : List Nat} {σ : L2.St} {H1 : Hp} {D : Addr} {Qd : Hp → Prop} (Pv : Nat → Hp → Prop) (h0 : Pv 0 (upd H1 D (.dK []))) (hG : ∀ i H, i ≤ n → Pv i H → G H)
    (hs : ∀ i x H H', i < n → Pv i H → Y i H x H' → g x (wipe σ vs) H' fun σ2 H2 => wipe σ2 vs = wipe σ vs ∧ tt σ2 H2 fun b H3 =>
      if b = true then tk σ2 H3 fun y H4 => tv σ2 H4 fun z H5 => ∃ kvs k, y = kV k ∧ H5 D = some (.dK kvs) ∧ kvs.length < sizeLine ∧ Pv (i + 1) (upd H5 D (.dK (putK kvs k z))) else Pv (i + 1) H3) (hd : ∀ H, Pv n H → Qd H) :
    ∃ W : Nat → Nat → Hp → Prop, (∃ m, W 0 m (upd H1 D (.dK []))) ∧ ∀ i m H, W i m H →
      (J.stop i H ∧ Qd H) ∨ (J.go i H ∧ ∃ Nx : Hp → Prop, (∀ H', Nx H' → ∃ m', m' < m ∧ W (i + 1) m' H') ∧ ∀ x H', J.yld i H x H' → g x (wipe σ vs) H' fun σ2 H2 => wipe σ2 vs = wipe σ vs ∧ tt σ2 H2 fun b H3 =>
        if b = true then tk σ2 H3 fun y H4 => tv σ2 H4 fun z H5 => ∃ kvs k, y = kV k ∧ H5 D = some (.dK kvs) ∧ kvs.length < sizeLine ∧ Nx (upd H5 D (.dK (putK kvs k z))) else Nx H3) := by
  refine ⟨fun i m H => m = n - i ∧ i ≤ n ∧ Pv i H, ⟨n, by simp, Nat.zero_le _, h0⟩, ?_⟩
  rintro i m H ⟨rfl, hi, p⟩
  have q := hG i H hi p
  by_cases hlt : i < n
  · refine .inr ⟨w.goes i H hlt q, Pv (i + 1), fun H' p' => ⟨n - (i + 1), by omega, rfl, hlt, p'⟩, fun x H' y => hs i x H H' hlt p (w.yields i H x H' hlt q y)⟩
  · have e : i = n := by omega
    subst e
    exact .inl ⟨w.stops H q, hd H p⟩
/-- what is known of the places behind a letter -/
def PlO (K : PySem.W.Frag) (H : Hp) (os : List (List Fc)) (v : V) : Option (List (List Fc)) → Prop
  | none => v = .non
  | some st => ∃ a, v = .ref a ∧ SqT K H a ((plc os st).map V.int)
inductive IsRo (K : PySem.W.Frag) (H : Hp) (os : List (List Fc)) : List (Key × V) → List (Nat × Option (List (List Fc))) → Prop where
  | nil : IsRo K H os [] []
  | cons {c : Nat} {v : V} {o : Option (List (List Fc))} {kvs : List (Key × V)} {rows : List (Nat × Option (List (List Fc)))} (h : PlO K H os v o) (r : IsRo K H os kvs rows) : IsRo K H os ((Sum.inr (one c), v) :: kvs) ((c, o) :: rows)
section
variable {K : PySem.W.Frag} {H H' : Hp} {os : List (List Fc)}
theorem PlO.mono {v : V} {o : Option (List (List Fc))} (h : PlO K H os v o) (m : ∀ b xs, SqT K H b xs → SqT K H' b xs) : PlO K H' os v o := by
  cases o with
  | none => exact h
  | some st =>
    obtain ⟨a, e, q⟩ := h
    exact ⟨a, e, m _ _ q⟩
theorem IsRo.mono (m : ∀ b xs, SqT K H b xs → SqT K H' b xs) : ∀ {kvs : List (Key × V)} {rows : List (Nat × Option (List (List Fc)))}, IsRo K H os kvs rows → IsRo K H' os kvs rows
  | _, _, .nil => .nil
  | _, _, .cons h r => .cons (h.mono m) (r.mono m)
theorem IsRo.len : ∀ {kvs : List (Key × V)} {rows : List (Nat × Option (List (List Fc)))}, IsRo K H os kvs rows → kvs.length = rows.length
  | _, _, .nil => rfl
  | _, _, .cons _ r => by rw [List.length_cons, List.length_cons, r.len]
theorem IsRo.snoc {c : Nat} {v : V} {o : Option (List (List Fc))} (h' : PlO K H os v o) : ∀ {kvs : List (Key × V)} {rows : List (Nat × Option (List (List Fc)))}, IsRo K H os kvs rows → IsRo K H os (kvs ++ [(Sum.inr (one c), v)]) (rows ++ [(c, o)])
  | _, _, .nil => .cons h' .nil
  | _, _, .cons h r => .cons h (r.snoc h')
theorem one_inj {c d : Nat} (h : one c = one d) : c = d := by
  have := congrArg tl h
  rw [tl_one, tl_one] at this
  exact (List.cons.inj this).1
theorem IsRo.fresh {c : Nat} : ∀ {kvs : List (Key × V)} {rows : List (Nat × Option (List (List Fc)))}, IsRo K H os kvs rows → (∀ r ∈ rows, r.1 ≠ c) → valV kvs (Sum.inr (one c)) = none
  | _, _, .nil, _ => rfl
  | _, _, .cons (c := d) h r, n => by
    rw [valV_neg fun e => n _ List.mem_cons_self (one_inj (Sum.inr.inj e))]
    exact r.fresh fun x hx => n x (List.mem_cons_of_mem _ hx)
theorem IsRo.at {c : Nat} {o : Option (List (List Fc))} : ∀ {kvs : List (Key × V)} {rows : List (Nat × Option (List (List Fc)))}, IsRo K H os kvs rows → (rows.map (·.1)).Nodup → (c, o) ∈ rows → ∃ v, valV kvs (Sum.inr (one c)) = some v ∧ PlO K H os v o
  | _, _, .nil, _, h => (nomatch h)
  | _, _, .cons (c := d) (v := v) h r, nd, hm => by
    rw [List.map_cons, List.nodup_cons] at nd
    rcases List.mem_cons.mp hm with e | hm
    · cases e
      exact ⟨v, valV_pos rfl, h⟩
    · rw [valV_neg fun e => nd.1 (List.mem_map.mpr ⟨_, hm, (one_inj (Sum.inr.inj e)).symm⟩)]
      exact r.at nd.2 hm
end
theorem upd_tupK {H : Hp} {D : Addr} {k0 : List (Key × V)} {o : HO} {K : PySem.W.Frag} (hD : H D = some (.dK k0)) (b : Addr) (xs : List V) (h : SqT K H b xs) : SqT K (upd H D o) b xs := by
  rcases h with (h | ⟨u, h⟩) | h
  · exact .inl (.inl ((upd_ne (ne_of h hD (by intro z; cases z))).trans h))
  · exact .inl (.inr ⟨u, (upd_ne (ne_of h hD (by intro z; cases z))).trans h⟩)
  · exact .inr h
/-- the steps: each letter that all products can take, with the places behind it -/
def stepsO (cs : List Nat) (qs : List (List Fc)) : List (Nat × Option (List (List Fc))) := cs.map fun c => (c, pbh qs (ones [c]))
def steps (cs : List Nat) (qs : List (List Fc)) : List (Nat × Option (List (List Fc))) := (stepsO cs qs).filter fun r => r.2.isSome
/-- what places_by_letter promises of the letters -/
structure Lets (z : Str) (qs : List (List Fc)) (cs : List Nat) : Prop where
  pw : cs.Pairwise (· < ·)
  sub : ∀ c ∈ cs, c ∈ tl z
  all : ∀ c, (pbh qs (ones [c])).isSome = true → c ∈ cs
def spPbl (K : PySem.W.Frag) : Sp := fun vs H Q _ => ∃ (l t : Addr) (z : Str) (ovs : List V) (os qs : List (List Fc)), vs = [.ref l, .ref t] ∧ SqL K H l ovs ∧ IsL K H ovs os ∧ SqT K H t ((plc os qs).map V.int) ∧ Suf os qs ∧ Alph z ∧ (∀ o ∈ os, (∀ f ∈ o, FOk z f) ∧ o.length ≤ 20) ∧ os ≠ [] ∧ os.length ≤ 1000 ∧
  ∀ H' u kvs cs, Same H H' → H u = none → H' u = some (.dK kvs) → IsRo K H' os kvs (steps cs qs) → Lets z qs cs → Q (.ref u) H'
theorem flat_le {z : Str} (al : Alph z) : ∀ fs : List Fc, (∀ f ∈ fs, FOk z f) → ((fs.map ls).flatten).length ≤ 3 * fs.length
  | [], _ => Nat.zero_le _
  | f :: fs, h => by
    have h1 := flat_le al fs fun x hx => h x (List.mem_cons_of_mem _ hx)
    have h2 := fok_len al (h f List.mem_cons_self)
    rw [List.map_cons, List.flatten_cons, List.length_append, List.length_cons]
    omega
theorem take_lt {cs : List Nat} (pw : cs.Pairwise (· < ·)) {i c d : Nat} (hc : cs[i]? = some c) (hd : d ∈ cs.take i) : d ≠ c := fun e => by
  subst e
  obtain ⟨j, hj⟩ := List.getElem?_of_mem hd
  rw [List.getElem?_take] at hj
  split at hj
  · next h =>
    obtain ⟨li, ei⟩ := List.getElem?_eq_some_iff.mp hc
    obtain ⟨lj, ej⟩ := List.getElem?_eq_some_iff.mp hj
    have := List.pairwise_iff_getElem.mp pw j i lj li h
    omega
  · cases hj
theorem stepsO_snoc (cs : List Nat) (qs : List (List Fc)) {i c : Nat} (h : cs[i]? = some c) : stepsO (cs.take (i + 1)) qs = stepsO (cs.take i) qs ++ [(c, pbh qs (ones [c]))] := by
  unfold stepsO
  rw [List.take_add_one, h, List.map_append]
  rfl
theorem steps_snoc (cs : List Nat) (qs : List (List Fc)) {i c : Nat} (h : cs[i]? = some c) : steps (cs.take (i + 1)) qs = steps (cs.take i) qs ++ if (pbh qs (ones [c])).isSome = true then [(c, pbh qs (ones [c]))] else [] := by
  unfold steps
  rw [stepsO_snoc cs qs h, List.filter_append]
  congr 1
  rw [List.filter_cons]
  rfl
section
variable {P : Program} {w : World} {K : PySem.W.Frag} {mg : Str → Option Value} {base : Heap}
theorem scPbl : FnScope ["products", "places", "letters", "found", "letter"] ["products", "places"] (defScope sPlacesByLetter) := ⟨rfl, rfl, rfl, by decide +kernel, rfl, by decide +kernel, by decide +kernel⟩
structure DfPb (K : PySem.W.Frag) (mg : Str → Option Value) where
  b : Df K mg "places_behind" sPlacesBehind ["product", "others", "places"]
  p : Df K mg "place_behind" sPlaceBehind ["product", "other", "start"]
  h : Df K mg "behind" sBehind ["product", "place"]
  c : Df K mg "covers" sCovers ["factor", "other"]
  s : Df K mg "swallows" sSwallows ["factor", "other"]
  ma : mg "all" = none
  mt : mg "tuple" = none
  mz : mg "zip" = none
  B : Bl mg
theorem ok_pbl (D : Df K mg "places_by_letter" sPlacesByLetter ["products", "places"]) (Dl : Df K mg "letters_of" sLettersOf ["factors"]) (Dw : Df K mg "subwords_product" sSubwordsProduct ["word"]) (B : DfPb K mg) :
    FnOk P w K mg base CX0 5 D.f D.fd ["products", "places"] (spPbl K) := by
  let Dp := B.b
  have Gl : FnOk P w K mg base CX0 1 Dl.f Dl.fd ["factors"] (spLofT K) := ok_lofT Dl B.B.sorted B.B.set
  have Gw : FnOk P w K mg base CX0 1 Dw.f Dw.fd ["word"] (spSubw K) := ok_subw Dw B.mt
  have Gp : FnOk P w K mg base CX0 4 Dp.f Dp.fd ["product", "others", "places"] (spPbh K) := ok_pbh B.b B.p B.h B.c B.s B.ma B.B.len B.mt B.mz
  refine D.F.ok scPbl (fun vs H Q E h => ?_) (fun cdv A outer s H vs Q E hr h => ?_)
  · obtain ⟨l, t, z, ovs, os, qs, rfl, _⟩ := h
    rfl
  · obtain ⟨l, t, z, ovs, os, qs, rfl, hl, iL, ht, su, al, ok, ne, ol, k⟩ := h
    have hr1 : Room 1 _ := hr.mono (by decide)
    have hr4 : Room 4 _ := hr.mono (by decide)
    have hu1 : (A.deeper (envOfC "places_by_letter" (defScope sPlacesByLetter) s.heap.objs.size D.f cdv)).units + 1 < cLine := by have := hr.units; omega
    have sl := sizeLine_eq
    refine ⟨_, PSs.nox (pss_cons (ps_set (i := 2) scPbl.nd rfl (.inl rfl) (pe_call Gl hr1 (by rfl) Dl.g Dl.F.kp Dl.b .nil pass0 (pa_cons (pe_ix ix_list (pv 0) pe_int (fun _ _ => rfl)) pa_nil))) (pss_cons (ps_set (i := 3) scPbl.nd rfl (.inr rfl) (pe_dc (own := [("letter", 4)]) (g := gName 4) rfl scPbl.nd (pi_str (pv 2)) (blkOk_by (N := ["products", "places", "letters", "found", "letter"]) (sc := defScope sPlacesByLetter) (by decide +kernel)) (fun _ _ _ _ _ => pg_name (i := 4) scPbl.nd rfl (Or.inl rfl)) (fun _ _ _ _ _ => pts_nil) (fun _ _ _ _ _ => (pv 4)) (fun _ _ _ _ _ => (pe_call Gp hr4 (by rfl) Dp.g Dp.F.kp Dp.b .nil pass0 (pa_cons (pe_call Gw hr1 (by rfl) Dw.g Dw.F.kp Dw.b .nil pass0 (pa_cons (pv 4) pa_nil)) (pa_cons (pv 0) (pa_cons (pv 1) pa_nil))))))) (pss_one (ps_ret (pe_dc (own := [("letter", 4)]) (g := gName 4) rfl scPbl.nd (pi_str (pv 2)) (blkOk_by (N := ["products", "places", "letters", "found", "letter"]) (sc := defScope sPlacesByLetter) (by decide +kernel)) (fun _ _ _ _ _ => pg_name (i := 4) scPbl.nd rfl (Or.inl rfl)) (fun _ _ _ _ _ => (pts_one (pt_cmpR op_notN (pe_dget hu1 (pv 3) (pv 4) (fun _ _ => rfl)) pe_non (nomark _)))) (fun _ _ _ _ _ => (pv 4)) (fun _ _ _ _ _ => (pe_dget hu1 (pv 3) (pv 4) (fun _ _ => rfl)))))))), ?_⟩
    cases iL with
    | nil => exact absurd rfl ne
    | @cons v0 o0 ovs' os' is0 iR0 =>
    cases qs with
    | nil => exact su.elim
    | cons q0 qs' =>
    obtain ⟨a0, xs0, rfl, ha0, iF0⟩ := id is0
    have ok0 := ok o0 List.mem_cons_self
    have iL : IsL K H (V.ref a0 :: ovs') (o0 :: os') := .cons is0 iR0
    have lo : ∀ o ∈ o0 :: os', ∀ f ∈ o, Low f := fun o ho f hf => fok_low al ((ok o ho).1 f hf)
    have f60 := flat_le al o0 ok0.1
    have z3 := al.2.2.1
    refine ⟨.ref l, rfl, l, _, 0, _, rfl, rfl, hl, atI_nat (j := 0) rfl, a0, z, xs0, o0, rfl, ha0, iF0, fun f hf c hc => (ok0.1 f hf).2.1.subset hc, by omega, by omega, by omega, fun H1 y s1 lt => ?_⟩
    have ya : ∀ c ∈ tl y, c ∈ tl z := fun c hc => by
      obtain ⟨f, hf, hc⟩ := (lt.2 c).mp hc
      exact (ok0.1 f hf).2.1.subset hc
    have ys : y.cps.size = (tl y).length := (Array.length_toList).symm
    have y3 : (tl y).length ≤ 3 := Nat.le_trans (asc_sub _ _ lt.1 al.1 ya).length_le z3
    have lets : Lets z (q0 :: qs') (tl y) := ⟨lt.1, ya, fun c hc => by
      obtain ⟨rs, e⟩ := Option.isSome_iff_exists.mp hc
      obtain ⟨r, _, h1, _, _⟩ := pbh_some e
      have i1 : inc q0 (ones [c]) = true := by rw [← rst_inc, h1]; rfl
      have lg := (acc_iff (fok_w1 fun f hf => ok0.1 f (su.1.subset hf)) [c]).mp i1
      obtain ⟨g, hg, cg⟩ := lg.has
      exact (lt.2 c).mpr ⟨g, su.1.subset hg, cg⟩⟩
    generalize hqs : q0 :: qs' = qs at su ht k lets
    generalize hos : o0 :: os' = os at su ht k iL lo ol
    have okz : ∀ (c : Nat), c ∈ tl y → c < 128 := fun c hc => by
      have := al.2.2.2 c (ya c hc)
      omega
    refine ⟨.str y, rfl, y, rfl, fun D hD => ?_⟩
    refine dc_it walk_str (fun i H' => ∃ kvs, H' D = some (.dK kvs) ∧ IsRo K H' os kvs (stepsO ((tl y).take i) qs) ∧ Same H1 H') ⟨[], upd_same, .nil, same_upd hD⟩ (fun _ _ _ _ => trivial) ?_ ?_
    · rintro i x G G' hi ⟨kvs, gD, iR, sm⟩ ⟨rfl, c, hc, rfl⟩
      have hc' : (tl y)[i]? = some c := by simpa using hc
      have cm := List.mem_of_getElem? hc'
      have s01 := s1.trans sm
      refine ⟨rfl, yes ⟨.str ⟨#[c]⟩, rfl, .str ⟨#[c]⟩, rfl, ⟨#[c]⟩, rfl, by show 1 ≤ 100000; decide, fun H2 v s2 isp => ?_⟩⟩
      have s02 := s01.trans s2
      have iRl := iR.len
      have fresh := iR.fresh (c := c) fun r hr => by
        obtain ⟨d, hd, rfl⟩ := List.mem_map.mp hr
        exact take_lt lets.pw hc' hd
      have kl : kvs.length < sizeLine := by
        rw [iRl]
        unfold stepsO
        rw [List.length_map, List.length_take]
        omega
      have fin : ∀ (H3 : Hp) (v : V), Same H2 H3 → PlO K H3 os v (pbh qs (ones [c])) → ∃ kvs' k', V.str ⟨#[c]⟩ = kV k' ∧ H3 D = some (.dK kvs') ∧ kvs'.length < sizeLine ∧ ∃ kvs2, (upd H3 D (.dK (putK kvs' k' v))) D = some (.dK kvs2) ∧ IsRo K (upd H3 D (.dK (putK kvs' k' v))) os kvs2 (stepsO ((tl y).take (i + 1)) qs) ∧ Same H1 (upd H3 D (.dK (putK kvs' k' v))) := fun H3 v s3 hv => by
        have gD3 := s3 _ _ (s2 _ _ gD)
        have mo : ∀ b xs, SqT K H3 b xs → SqT K (upd H3 D (.dK (putK kvs (Sum.inr (one c)) v))) b xs := upd_tupK gD3
        refine ⟨kvs, Sum.inr (one c), rfl, gD3, kl, kvs ++ [(Sum.inr (one c), v)], by rw [upd_same, putK_new _ fresh], ?_, fun b o e => (upd_ne (ne_of_none e hD)).trans ((sm.trans (s2.trans s3)) _ _ e)⟩
        rw [stepsO_snoc _ _ hc']
        exact ((iR.mono (same_tup (s2.trans s3))).snoc hv).mono mo
      refine ⟨.ref l, rfl, .ref t, rfl, v, l, t, ones [c], _, os, qs, rfl, isp, same_lst s02 hl, iL.mono (same_tup s02), same_tup s02 _ _ ht, su, low_ones fun d hd => by rw [List.mem_singleton.mp hd]; exact okz c cm, lo, ol, fun e H3 s3 => fin H3 _ s3 (by rw [e]; rfl), fun rs e H3 u s3 hu => fin H3 _ s3 (by rw [e]; exact ⟨u, rfl, SqT.of hu⟩)⟩
    rintro G ⟨kvs, gD, iR, sm⟩
    rw [ys, List.take_length] at iR
    have nd : ((stepsO (tl y) qs).map (·.1)).Nodup := by
      unfold stepsO
      rw [List.map_map]
      show ((tl y).map fun c => c).Nodup
      rw [List.map_id']
      exact lets.pw.imp fun h => Nat.ne_of_lt h
    refine ⟨.str y, rfl, y, rfl, fun D2 hD2 => ?_⟩
    have s2 := same_upd (o := .dK []) hD2
    refine dc_it walk_str (fun i H' => ∃ kvs2, H' D2 = some (.dK kvs2) ∧ IsRo K H' os kvs2 (steps ((tl y).take i) qs) ∧ Same G H') ⟨[], upd_same, .nil, s2⟩ (fun _ _ _ _ => trivial) ?_ ?_
    · rintro i x G1 G2 hi ⟨kvs2, gD2, iR2, sm2⟩ ⟨rfl, c, hc, rfl⟩
      have hc' : (tl y)[i]? = some c := by simpa using hc
      have cm := List.mem_of_getElem? hc'
      obtain ⟨v, hv, po⟩ := (iR.mono (same_tup sm2)).at nd (List.mem_map.mpr ⟨c, cm, rfl⟩)
      have dg : DGet G2 D (.str ⟨#[c]⟩) (some v) := by
        have := DGet.k (k := Sum.inr (one c)) (sm2 _ _ gD)
        rw [hv] at this
        exact this
      have snoc := steps_snoc (tl y) qs hc'
      cases e : pbh qs (ones [c]) with
      | none =>
        rw [e] at po snoc
        have po : v = V.non := po
        subst po
        refine ⟨rfl, .ref D, rfl, .str ⟨#[c]⟩, rfl, D, .non, rfl, dg, rfl, _, rfl, ?_⟩
        refine iteF ⟨kvs2, gD2, ?_, sm2⟩
        rw [snoc, if_neg (by decide), List.append_nil]
        exact iR2
      | some st =>
        rw [e] at po snoc
        obtain ⟨a, rfl, hst⟩ := id po
        refine ⟨rfl, .ref D, rfl, .str ⟨#[c]⟩, rfl, D, _, rfl, dg, rfl, _, rfl, ?_⟩
        have iRl := iR2.len
        have fresh := iR2.fresh (c := c) fun r hr => by
          obtain ⟨d, hd, rfl⟩ := List.mem_map.mp (List.mem_filter.mp hr).1
          exact take_lt lets.pw hc' hd
        have kl : kvs2.length < sizeLine := by
          rw [iRl]
          unfold steps
          refine Nat.lt_of_le_of_lt (List.length_filter_le _ _) ?_
          unfold stepsO
          rw [List.length_map, List.length_take]
          omega
        refine iteT ⟨.str ⟨#[c]⟩, rfl, .ref D, rfl, .str ⟨#[c]⟩, rfl, D, _, rfl, dg, kvs2, Sum.inr (one c), rfl, gD2, kl, kvs2 ++ [(Sum.inr (one c), .ref a)], by rw [upd_same, putK_new _ fresh], ?_, fun b o e => (upd_ne (ne_of_none e hD2)).trans (sm2 _ _ e)⟩
        rw [snoc, if_pos (show (some st).isSome = true from rfl)]
        exact (iR2.snoc po).mono (upd_tupK gD2)
    rintro G2 ⟨kvs2, gD2, iR2, sm2⟩
    rw [ys, List.take_length] at iR2
    exact k _ D2 kvs2 (tl y) ((s1.trans sm).trans sm2) (by
      cases q : H D2 with
      | none => rfl
      | some o => rw [sm _ _ (s1 _ _ q)] at hD2; cases hD2) gD2 iR2 lets
end
end DW
/-! maximal_products -/
namespace DW
open PySem PySem.Spec PyProof.Rows L2 TL
set_option autoImplicit false
open ND (Ent DO KOks NK NKs valN putN setN keyVs)
/-! ### keys -/
def facKey (f : Fc) : NestedKey := .tup [.text (kd f.1), .text f.2]
def prodKey (fs : List Fc) : NestedKey := .tup (fs.map facKey)
def numKey (ns : List Int) : NestedKey := .tup (ns.map NestedKey.num)
theorem facKey_inj {f g : Fc} (h : facKey f = facKey g) : f = g := by
  unfold facKey at h
  injection h with h
  injection h with h1 h2
  injection h1 with h1
  injection h2 with h2 _
  injection h2 with h2
  have k := kd_inj h1
  obtain ⟨a, b⟩ := f
  obtain ⟨c, d⟩ := g
  simp only at k h2
  rw [k, h2]
theorem prodKey_inj : ∀ {p q : List Fc}, prodKey p = prodKey q → p = q := by
  intro p q h
  unfold prodKey at h
  injection h with h
  exact (List.map_inj_right (f := facKey) fun a b e => facKey_inj e).mp h
theorem num_inj {a b : Int} (h : NestedKey.num a = NestedKey.num b) : a = b := by injection h
theorem numKey_inj {p q : List Int} (h : numKey p = numKey q) : p = q := by
  unfold numKey at h
  injection h with h
  exact (List.map_inj_right (f := NestedKey.num) fun a b e => num_inj e).mp h
theorem isF_nk {K : PySem.W.Frag} {H : Hp} {v : V} {f : Fc} (h : IsF K H v f) : NK K H (facKey f) v := by
  obtain ⟨a, rfl, q⟩ := h
  exact .tup q (.cons (.text _) (.cons (.text _) .nil))
theorem isFs_nk {K : PySem.W.Frag} {H : Hp} : ∀ {vs : List V} {fs : List Fc}, IsFs K H vs fs → NKs K H (fs.map facKey) vs
  | _, _, .nil => .nil
  | _, _, .cons a r => .cons (isF_nk a) (isFs_nk r)
theorem isP_nk {K : PySem.W.Frag} {H : Hp} {v : V} {fs : List Fc} (h : IsP K H v fs) : NK K H (prodKey fs) v := by
  obtain ⟨a, xs, rfl, q, r⟩ := h
  exact .tup q (isFs_nk r)
theorem nums_nk {K : PySem.W.Frag} {H : Hp} : ∀ ns : List Int, NKs K H (ns.map NestedKey.num) (ns.map V.int)
  | [] => .nil
  | n :: ns => .cons (.num n) (nums_nk ns)
theorem depth_fs : ∀ fs : List Fc, NestedKey.depthAll (fs.map facKey) ≤ 1
  | [] => by simp [NestedKey.depthAll]
  | f :: fs => by
    have := depth_fs fs
    simp only [List.map_cons, NestedKey.depthAll, facKey, NestedKey.depth]
    omega
theorem depth_prod (fs : List Fc) : (prodKey fs).depth ≤ 8 := by
  have := depth_fs fs
  simp only [prodKey, NestedKey.depth]
  omega
theorem depth_nums : ∀ ns : List Int, NestedKey.depthAll (ns.map NestedKey.num) = 0
  | [] => by simp [NestedKey.depthAll]
  | n :: ns => by
    have := depth_nums ns
    simp only [List.map_cons, NestedKey.depthAll, NestedKey.depth, this]
    rfl
theorem depth_num (ns : List Int) : (numKey ns).depth ≤ 8 := by
  simp only [numKey, NestedKey.depth, depth_nums]
  omega
def addR (rs : List (List Fc)) (r : List Fc) : List (List Fc) := if r ∈ rs then rs else rs ++ [r]
theorem addR_mem {rs : List (List Fc)} {r x : List Fc} : x ∈ addR rs r ↔ x ∈ rs ∨ x = r := by
  unfold addR
  split
  · rename_i h
    exact ⟨.inl, fun z => z.elim id fun e => by rw [e]; exact h⟩
  · simp
theorem addR_nd {rs : List (List Fc)} {r : List Fc} (h : rs.Nodup) : (addR rs r).Nodup := by
  unfold addR
  split
  · exact h
  · rename_i n
    exact List.nodup_append.mpr ⟨h, by simp, fun a ha b hb e => n (by rw [List.mem_singleton.mp hb] at e; rw [← e]; exact ha)⟩
structure RW (K : PySem.W.Frag) (H : Hp) (rows : List Ent) (rs : List (List Fc)) : Prop where
  keys : rows.map (·.1) = rs.map prodKey
  isp : ∀ (i : Nat) (e : Ent) (r : List Fc), rows[i]? = some e → rs[i]? = some r → IsP K H (.ref e.2.1) r
theorem RW.len {K : PySem.W.Frag} {H : Hp} {rows : List Ent} {rs : List (List Fc)} (h : RW K H rows rs) : rows.length = rs.length := by
  have e := congrArg List.length h.keys
  rw [List.length_map, List.length_map] at e
  exact e
theorem RW.mono {K : PySem.W.Frag} {H H' : Hp} {rows : List Ent} {rs : List (List Fc)} (m : ∀ b xs, SqT K H b xs → SqT K H' b xs) (h : RW K H rows rs) : RW K H' rows rs := ⟨h.keys, fun i e r h1 h2 => (h.isp i e r h1 h2).mono m⟩
theorem RW.key {K : PySem.W.Frag} {H : Hp} {rows : List Ent} {rs : List (List Fc)} (h : RW K H rows rs) {i : Nat} {e : Ent} (he : rows[i]? = some e) : ∃ r, rs[i]? = some r ∧ e.1 = prodKey r := by
  have il := (List.getElem?_eq_some_iff.mp he).1
  have hl := h.len
  refine ⟨rs[i], List.getElem?_eq_getElem (by omega), ?_⟩
  have k1 : (rows.map (·.1))[i]? = some e.1 := by rw [List.getElem?_map, he]; rfl
  rw [h.keys, List.getElem?_map, List.getElem?_eq_getElem (by omega)] at k1
  exact (Option.some.inj k1).symm
theorem RW.oks {K : PySem.W.Frag} {H : Hp} {rows : List Ent} {rs : List (List Fc)} (h : RW K H rows rs) : KOks K H rows := fun e he => by
  obtain ⟨i, hi⟩ := List.getElem?_of_mem he
  obtain ⟨r, hr, ek⟩ := h.key hi
  rw [ek]
  exact ⟨isP_nk (h.isp i e r hi hr), depth_prod r⟩
theorem valN_none {kvs : List Ent} {k : NestedKey} (h : valN kvs k = none) : ∀ e ∈ kvs, e.1 ≠ k := fun e he z => by
  unfold valN at h
  rw [Option.map_eq_none_iff, List.find?_eq_none] at h
  exact h e he (decide_eq_true z)
theorem valN_some {kvs : List Ent} {k : NestedKey} {v : V} (h : valN kvs k = some v) : ∃ (j : Nat) (e : Ent), kvs[j]? = some e ∧ e.1 = k ∧ v = e.2.2 := by
  unfold valN at h
  obtain ⟨e, he, rfl⟩ := Option.map_eq_some_iff.mp h
  obtain ⟨j, hj⟩ := List.getElem?_of_mem (List.mem_of_find?_eq_some he)
  have hp := List.find?_some (p := fun p : Ent => decide (p.1 = k)) he
  exact ⟨j, e, hj, of_decide_eq_true hp, rfl⟩
theorem valN_get {kvs : List Ent} (nd : (kvs.map (·.1)).Nodup) {j : Nat} {e : Ent} (h : kvs[j]? = some e) : valN kvs e.1 = some e.2.2 := by
  cases q : valN kvs e.1 with
  | none => exact absurd rfl (valN_none q e (List.mem_of_getElem? h))
  | some v =>
    obtain ⟨i, e', hi, ek, ev⟩ := valN_some q
    have k1 : (kvs.map (·.1))[i]? = some e.1 := by rw [List.getElem?_map, hi, ← ek]; rfl
    have k2 : (kvs.map (·.1))[j]? = some e.1 := by rw [List.getElem?_map, h]; rfl
    have ij : i = j := (List.getElem?_inj (List.getElem?_eq_some_iff.mp k1).1 nd).mp (k1.trans k2.symm)
    rw [ij, h] at hi
    cases hi
    rw [ev]
theorem RW.put {K : PySem.W.Frag} {H : Hp} {rows : List Ent} {rs : List (List Fc)} {r : List Fc} {b : Addr} (h : RW K H rows rs) (hb : IsP K H (.ref b) r) : RW K H (putN rows (prodKey r) b (.bl true)) (addR rs r) := by
  have hl := h.len
  unfold putN
  cases q : valN rows (prodKey r) with
  | none =>
    have nr : r ∉ rs := fun hr => by
      obtain ⟨i, hi⟩ := List.getElem?_of_mem hr
      have il := (List.getElem?_eq_some_iff.mp hi).1
      have he : rows[i]? = some (rows[i]'(by omega)) := List.getElem?_eq_getElem (by omega)
      obtain ⟨r', hr', ek⟩ := h.key he
      rw [hi] at hr'
      cases hr'
      exact valN_none q _ (List.mem_of_getElem? he) ek
    rw [if_neg (by simp)]
    unfold addR
    rw [if_neg nr]
    refine ⟨by rw [List.map_append, List.map_append, h.keys]; rfl, fun i e x h1 h2 => ?_⟩
    by_cases c : i < rows.length
    · rw [List.getElem?_append_left c] at h1
      rw [List.getElem?_append_left (by omega)] at h2
      exact h.isp i e x h1 h2
    · rw [List.getElem?_append_right (by omega)] at h1
      rw [List.getElem?_append_right (by omega), ← hl] at h2
      generalize i - rows.length = m at h1 h2
      match m, h1, h2 with
      | 0, h1, h2 =>
        cases h1
        cases h2
        exact hb
      | m + 1, h1, _ => simp at h1
  | some v =>
    obtain ⟨i, e, hi, ek, _⟩ := valN_some q
    obtain ⟨r', hr', ek'⟩ := h.key hi
    have rr : r = r' := prodKey_inj (ek.symm.trans ek')
    rw [if_pos (show (some v).isSome = true from rfl)]
    unfold addR
    rw [if_pos (by rw [rr]; exact List.mem_of_getElem? hr')]
    have fst : ∀ e : Ent, (setN (prodKey r) (.bl true) e).1 = e.1 ∧ (setN (prodKey r) (.bl true) e).2.1 = e.2.1 := fun e => by
      unfold setN
      split <;> exact ⟨rfl, rfl⟩
    refine ⟨?_, fun n x y h1 h2 => ?_⟩
    · rw [List.map_map, ← h.keys]
      exact List.map_congr_left fun e _ => (fst e).1
    · rw [List.getElem?_map] at h1
      obtain ⟨x0, hx0, rfl⟩ := Option.map_eq_some_iff.mp h1
      rw [(fst x0).2]
      exact h.isp n x0 y hx0 h2
theorem RW.isl {K : PySem.W.Frag} {H : Hp} : ∀ {rows : List Ent} {rs : List (List Fc)}, RW K H rows rs → IsL K H (keyVs rows) rs
  | [], [], _ => .nil
  | [], _ :: _, h => by have := h.len; cases this
  | _ :: _, [], h => by have := h.len; cases this
  | e :: rows, r :: rs, h => by
    refine .cons (h.isp 0 e r rfl rfl) (RW.isl ⟨?_, fun i x y h1 h2 => h.isp (i + 1) x y h1 h2⟩)
    have := h.keys
    rw [List.map_cons, List.map_cons] at this
    exact (List.cons.inj this).2
/-- a store at a dict leaves the tuples -/
theorem upd_do {P : Program} {w : World} {K : PySem.W.Frag} {H : Hp} {D : Addr} {kvs : List Ent} {o : HO} (hD : H D = some (DO P w D kvs)) (b : Addr) (xs : List V) (h : SqT K H b xs) : SqT K (upd H D o) b xs := by
  rcases h with (h | ⟨u, h⟩) | h
  · exact .inl (.inl ((upd_ne (ne_of h hD (by intro z; cases z))).trans h))
  · exact .inl (.inr ⟨u, (upd_ne (ne_of h hD (by intro z; cases z))).trans h⟩)
  · exact .inr h
end DW
/-! branch_of -/
namespace DW
open PySem PySem.Spec PyProof.Rows L2 TL
set_option autoImplicit false
open ND (Ent DO KOks NK NKs valN putN setN keyVs)
theorem u9b {k : Nat} {A : Around} (hr : Room k A) : A.units + 9 < cLine := by
  have := hr.units
  omega
/-- a branch's dict: from each product to its rest -/
inductive IsBd (K : PySem.W.Frag) (H : Hp) (f : List Fc → List Fc) : List Ent → List (List Fc) → Prop where
  | nil : IsBd K H f [] []
  | cons {b : Addr} {v : V} {r : List Fc} {kvs : List Ent} {R : List (List Fc)} (hb : IsP K H (.ref b) (f r)) (hv : IsP K H v r) (t : IsBd K H f kvs R) : IsBd K H f ((prodKey (f r), b, v) :: kvs) (r :: R)
section
variable {K : PySem.W.Frag} {H H' : Hp} {f : List Fc → List Fc}
theorem IsBd.mono (m : ∀ b xs, SqT K H b xs → SqT K H' b xs) : ∀ {kvs : List Ent} {R : List (List Fc)}, IsBd K H f kvs R → IsBd K H' f kvs R
  | _, _, .nil => .nil
  | _, _, .cons hb hv t => .cons (hb.mono m) (hv.mono m) (t.mono m)
theorem IsBd.len : ∀ {kvs : List Ent} {R : List (List Fc)}, IsBd K H f kvs R → kvs.length = R.length
  | _, _, .nil => rfl
  | _, _, .cons _ _ t => by rw [List.length_cons, List.length_cons, t.len]
theorem IsBd.snoc {b : Addr} {v : V} {r : List Fc} (hb : IsP K H (.ref b) (f r)) (hv : IsP K H v r) : ∀ {kvs : List Ent} {R : List (List Fc)}, IsBd K H f kvs R → IsBd K H f (kvs ++ [(prodKey (f r), b, v)]) (R ++ [r])
  | _, _, .nil => .cons hb hv .nil
  | _, _, .cons hb' hv' t => .cons hb' hv' (t.snoc hb hv)
theorem IsBd.get : ∀ {kvs : List Ent} {R : List (List Fc)}, IsBd K H f kvs R → ∀ (i : Nat) (e : Ent), kvs[i]? = some e → ∃ r, R[i]? = some r ∧ e.1 = prodKey (f r) ∧ IsP K H (.ref e.2.1) (f r) ∧ IsP K H e.2.2 r
  | _, _, .nil, i, e, h => by simp at h
  | _, _, .cons hb hv t, 0, e, h => by
    have e := Option.some.inj h
    subst e
    exact ⟨_, rfl, rfl, hb, hv⟩
  | _, _, .cons hb hv t, i + 1, e, h => t.get i e h
theorem IsBd.keys : ∀ {kvs : List Ent} {R : List (List Fc)}, IsBd K H f kvs R → kvs.map (·.1) = R.map fun r => prodKey (f r)
  | _, _, .nil => rfl
  | _, _, .cons _ _ t => by rw [List.map_cons, List.map_cons, t.keys]
theorem IsBd.oks {kvs : List Ent} {R : List (List Fc)} (h : IsBd K H f kvs R) : KOks K H kvs := fun e he => by
  obtain ⟨i, hi⟩ := List.getElem?_of_mem he
  obtain ⟨r, _, e1, hb, _⟩ := h.get i e hi
  rw [e1]
  exact ⟨isP_nk hb, depth_prod _⟩
/-- whether a product is a key -/
theorem IsBd.has {kvs : List Ent} {R : List (List Fc)} (h : IsBd K H f kvs R) (p : List Fc) : (valN kvs (prodKey p)).isSome = true ↔ p ∈ R.map f := by
  constructor
  · intro q
    obtain ⟨v, e⟩ := Option.isSome_iff_exists.mp q
    obtain ⟨j, e, hj, ek, _⟩ := valN_some e
    obtain ⟨r, hr, e1, _, _⟩ := h.get j e hj
    rw [e1] at ek
    rw [← prodKey_inj ek]
    exact List.mem_map.mpr ⟨r, List.mem_of_getElem? hr, rfl⟩
  · intro q
    obtain ⟨r, hr, rfl⟩ := List.mem_map.mp q
    cases e : valN kvs (prodKey (f r)) with
    | some v => rfl
    | none =>
      have n := valN_none e
      have : prodKey (f r) ∈ kvs.map (·.1) := by
        rw [h.keys]
        exact List.mem_map.mpr ⟨r, hr, rfl⟩
      obtain ⟨x, hx, ex⟩ := List.mem_map.mp this
      exact absurd ex (n x hx)
end
def spBo (P : Program) (w : World) (K : PySem.W.Frag) : Sp := fun vs H Q _ => ∃ (c : Nat) (stay z : Str) (ra : Addr) (rvs : List V) (R : List (List Fc)), vs = [.str (one c), .str stay, .ref ra] ∧ SqL K H ra rvs ∧ IsL K H rvs R ∧ R.length ≤ 15000000 ∧ (∀ r ∈ R, r.length ≤ 9000) ∧ (tl stay).length ≤ 1000 ∧
  (∀ i r, R[i]? = some r → pre stay c r ∉ (R.take i).map (pre stay c)) ∧
  ∀ H' u kvs, Same H H' → H u = none → H' u = some (DO P w u kvs) → IsBd K H' (pre stay c) kvs R → Q (.ref u) H'
section
variable {P : Program} {w : World} {K : PySem.W.Frag} {mg : Str → Option Value} {base : Heap}
theorem scBo : FnScope ["letter", "stay", "rests", "found", "rest", "product"] ["letter", "stay", "rests"] (defScope sBranchOf) := ⟨rfl, rfl, rfl, by decide +kernel, rfl, by decide +kernel, by decide +kernel⟩
structure DfBo (K : PySem.W.Frag) (mg : Str → Option Value) where
  f : Df K mg "in_front" sInFront ["factor", "product"]
  s : Df K mg "swallows" sSwallows ["factor", "other"]
  ma : mg "all" = none
theorem ok_bo (Db : Df K mg "branch_of" sBranchOf ["letter", "stay", "rests"]) (D : DfBo K mg) : FnOk P w K mg base CX0 3 Db.f Db.fd ["letter", "stay", "rests"] (spBo P w K) := by
  have Gi : FnOk P w K mg base CX0 2 D.f.f D.f.fd ["factor", "product"] (spInf K) := ok_inf D.f D.s D.ma
  refine Db.F.ok scBo (fun vs H Q E h => ?_) (fun cdv A outer s H vs Q E hr h => ?_)
  · obtain ⟨c, stay, z, ra, rvs, R, rfl, _⟩ := h
    rfl
  · obtain ⟨c, stay, z, ra, rvs, R, rfl, hra, iL, Rl, rl, sl, nw, k⟩ := h
    have hr2 : Room 2 _ := hr.mono (by decide)
    have zl := sizeLine_eq
    have rvl := iL.len
    refine ⟨_, PSs.nox (pss_cons (ps_set (i := 3) scBo.nd rfl (.inl rfl) ND.pe_dnewN) (pss_cons (ps_for PassesOwn.never rfl (pi_list (pv 2)) (pg_name (i := 4) scBo.nd rfl (.inl rfl)) (pss_cons (ps_set (i := 5) scBo.nd rfl (.inl rfl) (pe_call Gi hr2 (by rfl) D.f.g D.f.F.kp D.f.b .nil pass0 (pa_cons (pe_tup (pa_cons pe_str (pa_cons (pv 0) pa_nil))) (pa_cons (pv 4) pa_nil)))) (pss_cons (ps_if (pt_cmpR op_ne (pv 1) pe_str (nomark _)) (pss_one (ps_set (i := 5) scBo.nd rfl (.inl rfl) (pe_call Gi hr2 (by rfl) D.f.g D.f.F.kp D.f.b .nil pass0 (pa_cons (pe_tup (pa_cons pe_str (pa_cons (pv 1) pa_nil))) (pa_cons (pv 5) pa_nil))))) pss_nil) (pss_one (ND.ps_dputN (u9b hr) (pv 3) (pv 5) (pv 4) rfl))))) (pss_one (ps_ret (pv 3))))), ?_⟩
    intro D0 hD0
    have s0 := same_upd (o := DO P w D0 []) hD0
    refine ⟨.ref ra, rfl, ra, rfl, ⟨_, same_lst s0 hra⟩, for_it (walk_list (xs := rvs)) (fun i σ H' => ∃ (kvs : List Ent) (y4 y5 : Option V), σ = [some (.str (one c)), some (.str stay), some (.ref ra), some (.ref D0), y4, y5] ∧ H' D0 = some (DO P w D0 kvs) ∧ IsBd K H' (pre stay c) kvs (R.take i) ∧ Same H H') ⟨[], _, _, rfl, upd_same, .nil, s0⟩ (fun _ _ _ _ ⟨_, _, _, _, _, _, sm⟩ => same_lst sm hra) ?_ ?_⟩
    · rintro i x σ G G' hi ⟨kvs, y4, y5, rfl, gD, iB, sm⟩ ⟨rfl, hx⟩
      obtain ⟨r, hr', isr⟩ := iL.get i x hx
      have rm := List.mem_of_getElem? hr'
      have isrG := isr.mono (same_tup sm)
      refine ⟨.str (one c), rfl, by show 2 ≤ sizeLine; decide, fun f0 hf0 => ?_⟩
      have sf := same_upd (o := .tup [V.str "opt", V.str (one c)]) hf0
      refine ⟨x, rfl, .ref f0, x, (false, one c), r, rfl, ⟨f0, rfl, SqT.of upd_same⟩, isrG.mono (same_tup sf), by show 1 ≤ 1000; decide, Nat.le_trans (rl r rm) (by decide), fun H1 v s1 isv => ?_⟩
      have sm1 := (sm.trans sf).trans s1
      have gD1 := s1 _ _ (sf _ _ gD)
      have iBl := iB.len
      have tkl : (R.take i).length ≤ 15000000 := by rw [List.length_take]; omega
      have fin : ∀ (H2 : Hp) (b : Addr), Same H1 H2 → IsP K H2 (.ref b) (pre stay c r) → ∃ (d b' : Addr) (kvs' : List Ent) (k' : NestedKey), V.ref D0 = .ref d ∧ V.ref b = .ref b' ∧ H2 d = some (DO P w d kvs') ∧ KOks K H2 kvs' ∧ NK K H2 k' (.ref b') ∧ k'.depth ≤ 8 ∧ kvs'.length < sizeLine ∧
          ∃ (kvs2 : List Ent) (y4 y5 : Option V), [some (V.str (one c)), some (.str stay), some (.ref ra), some (.ref D0), some x, some (.ref b)] = [some (V.str (one c)), some (.str stay), some (.ref ra), some (.ref D0), y4, y5] ∧ (upd H2 d (DO P w d (putN kvs' k' b' x))) D0 = some (DO P w D0 kvs2) ∧ IsBd K (upd H2 d (DO P w d (putN kvs' k' b' x))) (pre stay c) kvs2 (R.take (i + 1)) ∧ Same H (upd H2 d (DO P w d (putN kvs' k' b' x))) := fun H2 b s2 ib => by
        have gD2 := s2 _ _ gD1
        have sm2 := sm1.trans s2
        have iB2 : IsBd K H2 (pre stay c) kvs (R.take i) := iB.mono (same_tup ((sf.trans s1).trans s2))
        have new : valN kvs (prodKey (pre stay c r)) = none := by
          cases e : valN kvs (prodKey (pre stay c r)) with
          | none => rfl
          | some v => exact absurd ((iB2.has _).mp (by rw [e]; rfl)) (nw i r hr')
        have pn : putN kvs (prodKey (pre stay c r)) b x = kvs ++ [(prodKey (pre stay c r), b, x)] := by
          unfold ND.putN
          rw [new]
          exact if_neg (by decide)
        refine ⟨D0, b, kvs, prodKey (pre stay c r), rfl, rfl, gD2, iB2.oks, isP_nk ib, depth_prod _, by omega, kvs ++ [(prodKey (pre stay c r), b, x)], _, _, rfl, by rw [upd_same, pn], ?_, fun b o e => (upd_ne (ne_of_none e hD0)).trans (sm2 _ _ e)⟩
        rw [List.take_add_one, hr']
        exact (iB2.mono (upd_do gD2)).snoc (ib.mono (upd_do gD2)) ((isr.mono (same_tup sm2)).mono (upd_do gD2))
      refine ⟨.str stay, rfl, rfl, _, rfl, ite2 (fun e => ?_) (fun e => ?_)⟩
      · have ne : tl stay ≠ [] := fun q => by
          have : stay = "" := tl_inj q
          rw [this] at e
          exact absurd e (by decide +kernel)
        refine ⟨.str stay, rfl, by show 2 ≤ sizeLine; decide, fun f2 hf2 => ?_⟩
        have sf2 := same_upd (o := .tup [V.str "star", V.str stay]) hf2
        have il := infr_len (false, one c) r
        have rl9 := rl r rm
        refine ⟨v, rfl, .ref f2, v, (true, stay), infr (false, one c) r, rfl, ⟨f2, rfl, SqT.of upd_same⟩, isv.mono (same_tup sf2), sl, by omega, fun H3 u s3 isu => ?_⟩
        obtain ⟨b, bs, rfl, q⟩ := id isu
        refine ⟨x, rfl, .ref D0, rfl, .ref b, rfl, fin H3 b (sf2.trans s3) ?_⟩
        unfold pre
        rw [if_neg ne]
        exact isu
      · have ne : tl stay = [] := by
          cases q : tl stay with
          | nil => rfl
          | cons c0 l =>
            refine absurd ?_ e
            have : stay ≠ "" := fun z => by rw [z, show tl "" = [] by decide +kernel] at q; cases q
            simpa using this
        obtain ⟨b, bs, rfl, q⟩ := id isv
        refine ⟨x, rfl, .ref D0, rfl, .ref b, rfl, fin H1 b (Same.refl _) ?_⟩
        unfold pre
        rw [if_pos ne]
        exact isv
    · rintro σ G ⟨kvs, y4, y5, rfl, gD, iB, sm⟩
      rw [rvl, List.take_length] at iB
      exact ⟨.ref D0, rfl, k G D0 kvs sm hD0 gD iB⟩
end
end DW
/-! is_in_larger_branch -/
namespace DW
open PySem PySem.Spec PyProof.Rows L2 TL
set_option autoImplicit false
open ND (Ent DO KOks NK NKs valN putN setN keyVs)
/-- all branches, by their letters -/
inductive IsBs (P : Program) (w : World) (K : PySem.W.Frag) (H : Hp) (stay : Str) : List (Key × V) → List Bx → Prop where
  | nil : IsBs P w K H stay [] []
  | cons {D : Addr} {kvs : List Ent} {bkv : List (Key × V)} {b : Bx} {bs : List Bx} (hd : Rd H D (DO P w D kvs)) (iB : IsBd K H (pre stay b.c) kvs b.R) (es : b.es = b.R.map fun r => (pre stay b.c r, r)) (r : IsBs P w K H stay bkv bs) : IsBs P w K H stay ((Sum.inr (one b.c), .ref D) :: bkv) (b :: bs)
theorem same_rd {H H' : Hp} (s : Same H H') {a : Addr} {u : HO} (h : Rd H a u) : Rd H' a u := by
  rcases h with h | ⟨o, h⟩
  · exact .inl (s _ _ h)
  · exact .inr ⟨o, s _ _ h⟩
section
variable {P : Program} {w : World} {K : PySem.W.Frag} {H H' : Hp} {stay : Str}
theorem IsBs.mono (m : ∀ b xs, SqT K H b xs → SqT K H' b xs) (rd : ∀ D kvs, Rd H D (DO P w D kvs) → Rd H' D (DO P w D kvs)) : ∀ {bkv : List (Key × V)} {bs : List Bx}, IsBs P w K H stay bkv bs → IsBs P w K H' stay bkv bs
  | _, _, .nil => .nil
  | _, _, .cons hd iB es r => .cons (rd _ _ hd) (iB.mono m) es (r.mono m rd)
theorem IsBs.same {bkv : List (Key × V)} {bs : List Bx} (h : IsBs P w K H stay bkv bs) (s : Same H H') : IsBs P w K H' stay bkv bs := h.mono (same_tup s) fun _ _ q => same_rd s q
theorem IsBs.len : ∀ {bkv : List (Key × V)} {bs : List Bx}, IsBs P w K H stay bkv bs → bkv.length = bs.length
  | _, _, .nil => rfl
  | _, _, .cons _ _ _ r => by rw [List.length_cons, List.length_cons, r.len]
theorem IsBs.get : ∀ {bkv : List (Key × V)} {bs : List Bx}, IsBs P w K H stay bkv bs → ∀ (i : Nat) (k : Key) (v : V), bkv[i]? = some (k, v) → ∃ b D kvs, bs[i]? = some b ∧ k = Sum.inr (one b.c) ∧ v = .ref D ∧ Rd H D (DO P w D kvs) ∧ IsBd K H (pre stay b.c) kvs b.R ∧ b.es = b.R.map fun r => (pre stay b.c r, r)
  | _, _, .nil, i, k, v, h => by simp at h
  | _, _, .cons hd iB es r, 0, k, v, h => by
    cases h
    exact ⟨_, _, _, rfl, rfl, rfl, hd, iB, es⟩
  | _, _, .cons hd iB es r, i + 1, k, v, h => r.get i k v h
theorem IsBs.at {b : Bx} : ∀ {bkv : List (Key × V)} {bs : List Bx}, IsBs P w K H stay bkv bs → (bs.map Bx.c).Nodup → b ∈ bs → ∃ D kvs, valV bkv (Sum.inr (one b.c)) = some (.ref D) ∧ Rd H D (DO P w D kvs) ∧ IsBd K H (pre stay b.c) kvs b.R
  | _, _, .nil, _, h => (nomatch h)
  | _, _, .cons (b := d) hd iB es r, nd, hm => by
    rw [List.map_cons, List.nodup_cons] at nd
    rcases List.mem_cons.mp hm with e | hm
    · subst e
      exact ⟨_, _, valV_pos rfl, hd, iB⟩
    · rw [valV_neg fun e => nd.1 (List.mem_map.mpr ⟨_, hm, (one_inj (Sum.inr.inj e)).symm⟩)]
      exact r.at nd.2 hm
end
theorem keys_of {stay : Str} {b : Bx} (h : b.es = b.R.map fun r => (pre stay b.c r, r)) : b.keys = b.R.map (pre stay b.c) := by
  unfold Bx.keys
  rw [h, List.map_map]
  rfl
def spLb (P : Program) (w : World) (K : PySem.W.Frag) : Sp := fun vs H Q _ => ∃ (x y : V) (l sd bd : Addr) (p : List Fc) (c : Nat) (rest : List Fc) (ovs : List V) (os qs : List (List Fc)) (skv : List (Key × V)) (cs : List Nat) (o : Obj) (bkv : List (Key × V)) (bs : List Bx) (stay : Str),
  vs = [x, y, .ref l, .ref sd, .ref bd] ∧ IsP K H x p ∧ IsP K H y ((false, one c) :: rest) ∧ SqL K H l ovs ∧ IsL K H ovs os ∧ H sd = some (.dK skv) ∧ IsRo K H os skv (steps cs qs) ∧ cs.Nodup ∧ H bd = some (.frz o (.dK bkv)) ∧ IsBs P w K H stay bkv bs ∧ (bs.map Bx.c).Nodup ∧
  (∀ b ∈ bs, b.c ∈ cs ∧ pbh qs (ones [b.c]) = some b.st) ∧ Suf os qs ∧ c < 128 ∧ (∀ f ∈ rest, Low f) ∧ (∀ o ∈ os, ∀ f ∈ o, Low f) ∧ os.length ≤ 1000 ∧
  ∀ H' b, Same H H' → (b = true ↔ Larger bs p c rest) → Q (.bl b) H'
section
variable {P : Program} {w : World} {K : PySem.W.Frag} {mg : Str → Option Value} {base : Heap}
theorem scLb : FnScope ["product", "start", "products", "steps", "branches", "letter"] ["product", "start", "products", "steps", "branches"] (defScope sIsInLargerBranch) := ⟨rfl, rfl, rfl, by decide +kernel, rfl, by decide +kernel, by decide +kernel⟩
theorem ok_lb (Dl : Df K mg "is_in_larger_branch" sIsInLargerBranch ["product", "start", "products", "steps", "branches"]) (D : DfPb K mg) : FnOk P w K mg base CX0 5 Dl.f Dl.fd ["product", "start", "products", "steps", "branches"] (spLb P w K) := by
  have Gp : FnOk P w K mg base CX0 4 D.b.f D.b.fd ["product", "others", "places"] (spPbh K) := ok_pbh D.b D.p D.h D.c D.s D.ma D.B.len D.mt D.mz
  refine Dl.F.ok scLb (fun vs H Q E h => ?_) (fun cdv A outer s H vs Q E hr h => ?_)
  · obtain ⟨x, y, l, sd, bd, p, c, rest, ovs, os, qs, skv, cs, o, bkv, bs, stay, rfl, _⟩ := h
    rfl
  · obtain ⟨x, y, l, sd, bd, p, c, rest, ovs, os, qs, skv, cs, o, bkv, bs, stay, rfl, isp, isy, hl, iL, hsd, iR, cnd, hbd, iB, bnd, bst, su, c128, lr, lo, ol, k⟩ := h
    have hr4 : Room 4 _ := hr.mono (by decide)
    have hu1 : (A.deeper (envOfC "is_in_larger_branch" (defScope sIsInLargerBranch) s.heap.objs.size Dl.f cdv)).units + 1 < cLine := by have := hr.units; omega
    have bl := iB.len
    have snd : ((steps cs qs).map (·.1)).Nodup := by
      have : ((stepsO cs qs).map (·.1)).Nodup := by
        unfold stepsO
        rw [List.map_map]
        show (cs.map fun c => c).Nodup
        rw [List.map_id']
        exact cnd
      exact this.sublist (List.Sublist.map _ List.filter_sublist)
    obtain ⟨pa, pxs, rfl, hpa, iFp⟩ := id isp
    refine ⟨_, PSs.nox (pss_cons (ps_for PassesOwn.never rfl (pi_keys (pv 4)) (pg_name (i := 5) scLb.nd rfl (.inl rfl)) (pss_one (ps_if (pw_and (pt_cmpR (ND.op_notInN (u9b hr)) (pv 0) (pe_dget hu1 (pv 4) (pv 5) (fun _ _ => rfl)) rfl) (pw_and1 (pt_cmpR op_notN (pe_call Gp hr4 (by rfl) D.b.g D.b.F.kp D.b.b .nil pass0 (pa_cons (pv 1) (pa_cons (pv 2) (pa_cons (pe_dget hu1 (pv 3) (pv 5) (fun _ _ => rfl)) pa_nil)))) pe_non (nomark _)))).pt (pss_one (ps_ret pe_bl)) pss_nil))) (pss_one (ps_ret pe_bl))), ?_⟩
    refine ⟨.ref bd, rfl, bd, o, rfl, .inl ⟨bkv, hbd, for_it walk_keys (fun i σ H' => ∃ y5 : Option V, σ = [some (.ref pa), some y, some (.ref l), some (.ref sd), some (.ref bd), y5] ∧ Same H H' ∧ ¬ Larger (bs.take i) p c rest) ⟨_, rfl, Same.refl _, fun ⟨d, hd, _⟩ => (nomatch hd)⟩ (fun _ _ _ _ ⟨_, _, sm, _⟩ => sm _ _ hbd) ?_ ?_⟩⟩
    · rintro i v σ G G' hi ⟨y5, rfl, sm, no⟩ ⟨rfl, ky, v1, hk, rfl⟩
      obtain ⟨b, D1, kvs, hb, rfl, rfl, hD1, iBd, es⟩ := (iB.same sm).get i _ _ hk
      have bm := List.mem_of_getElem? hb
      obtain ⟨bc, bst1⟩ := bst b bm
      obtain ⟨D2, kvs2, hv, hD2, iBd2⟩ := (iB.same sm).at bnd bm
      have dg : DGet G' bd (.str (one b.c)) (some (.ref D2)) := .inl ⟨bkv, Sum.inr (one b.c), .inr ⟨o, sm _ _ hbd⟩, rfl, hv.symm⟩
      have ke := keys_of es
      have snoc : ¬ (p ∉ b.keys ∧ (pbh b.st ((false, one c) :: rest)).isSome = true) → ¬ Larger (bs.take (i + 1)) p c rest := fun n ⟨d, hd, h1, h2⟩ => by
        rw [List.take_add_one, hb] at hd
        rcases List.mem_append.mp hd with q | q
        · exact no ⟨d, q, h1, h2⟩
        · have : d = b := by simpa using q
          subst this
          exact n ⟨h1, h2⟩
      refine ⟨.ref pa, rfl, .ref bd, rfl, .str (one b.c), rfl, bd, _, rfl, dg, D2, pa, kvs2, prodKey p, rfl, rfl, ⟨hD2, iBd2.oks, isP_nk (isp.mono (same_tup sm)), depth_prod _⟩, _, rfl, ite2 (fun e => ?_) (fun e => ?_)⟩
      · have e1 : ¬ (valN kvs2 (prodKey p)).isSome = true := by simpa using e
        have nk : p ∉ b.keys := fun q => e1 ((iBd2.has p).mpr (by rw [← ke]; exact q))
        have rm : (b.c, some b.st) ∈ steps cs qs := List.mem_filter.mpr ⟨List.mem_map.mpr ⟨b.c, bc, by rw [bst1]⟩, rfl⟩
        obtain ⟨v2, hv2, po⟩ := (iR.mono (same_tup sm)).at snd rm
        obtain ⟨a2, rfl, ha2⟩ := id po
        have dg2 : DGet G' sd (.str (one b.c)) (some (.ref a2)) := .inl ⟨skv, Sum.inr (one b.c), .inl (sm _ _ hsd), rfl, hv2.symm⟩
        refine ⟨y, rfl, .ref l, rfl, .ref sd, rfl, .str (one b.c), rfl, sd, _, rfl, dg2, y, l, a2, _, ovs, os, b.st, rfl, isy.mono (same_tup sm), same_lst sm hl, iL.mono (same_tup sm), ha2, su.pbh bst1, ?_, lo, ol, fun e2 H3 s3 => ?_, fun rs e2 H3 u s3 hu => ?_⟩
        · intro f hf
          rcases List.mem_cons.mp hf with rfl | hf
          · exact ⟨fun d hd => by rw [show d = c from List.mem_singleton.mp hd]; exact c128, by show 1 ≤ 1000; decide⟩
          · exact lr f hf
        · exact ⟨rfl, _, rfl, iteF ⟨_, rfl, sm.trans s3, snoc fun h => by rw [e2] at h; cases h.2⟩⟩
        · exact ⟨rfl, _, rfl, iteT (k _ true (sm.trans s3) ⟨fun _ => ⟨b, bm, nk, by rw [e2]; rfl⟩, fun _ => rfl⟩)⟩
      · have e1 : (valN kvs2 (prodKey p)).isSome = true := by
          cases q : valN kvs2 (prodKey p) with
          | none => rw [q] at e; exact absurd rfl e
          | some v => rfl
        exact ⟨_, rfl, sm, snoc fun h => h.1 (by rw [ke]; exact (iBd2.has p).mp e1)⟩
    · rintro σ G ⟨y5, rfl, sm, no⟩
      rw [bl, List.take_length] at no
      exact k _ false sm ⟨fun e => (nomatch e), fun h => absurd h no⟩
end
end DW
/-! join_branches -/
namespace DW
open PySem PySem.Spec PyProof.Rows L2 TL
set_option autoImplicit false
open ND (Ent DO KOks NK NKs valN putN setN keyVs)
/-- the branches, none of them locked -/
inductive IsBu (P : Program) (w : World) (K : PySem.W.Frag) (H : Hp) (stay : Str) : List (Key × V) → List Bx → Prop where
  | nil : IsBu P w K H stay [] []
  | cons {D : Addr} {kvs : List Ent} {bkv : List (Key × V)} {b : Bx} {bs : List Bx} (hd : H D = some (DO P w D kvs)) (iB : IsBd K H (pre stay b.c) kvs b.R) (es : b.es = b.R.map fun r => (pre stay b.c r, r)) (r : IsBu P w K H stay bkv bs) : IsBu P w K H stay ((Sum.inr (one b.c), .ref D) :: bkv) (b :: bs)
section
variable {P : Program} {w : World} {K : PySem.W.Frag} {H H' : Hp} {stay : Str}
theorem IsBu.bs (m : ∀ b xs, SqT K H b xs → SqT K H' b xs) (rd : ∀ D kvs, H D = some (DO P w D kvs) → Rd H' D (DO P w D kvs)) : ∀ {bkv : List (Key × V)} {bs : List Bx}, IsBu P w K H stay bkv bs → IsBs P w K H' stay bkv bs
  | _, _, .nil => .nil
  | _, _, .cons hd iB es r => .cons (rd _ _ hd) (iB.mono m) es (r.bs m rd)
theorem IsBu.mono (m : ∀ b xs, SqT K H b xs → SqT K H' b xs) (rd : ∀ D kvs, H D = some (DO P w D kvs) → H' D = some (DO P w D kvs)) : ∀ {bkv : List (Key × V)} {bs : List Bx}, IsBu P w K H stay bkv bs → IsBu P w K H' stay bkv bs
  | _, _, .nil => .nil
  | _, _, .cons hd iB es r => .cons (rd _ _ hd) (iB.mono m) es (r.mono m rd)
theorem IsBu.len : ∀ {bkv : List (Key × V)} {bs : List Bx}, IsBu P w K H stay bkv bs → bkv.length = bs.length
  | _, _, .nil => rfl
  | _, _, .cons _ _ _ r => by rw [List.length_cons, List.length_cons, r.len]
theorem IsBu.get : ∀ {bkv : List (Key × V)} {bs : List Bx}, IsBu P w K H stay bkv bs → ∀ (i : Nat) (k : Key) (v : V), bkv[i]? = some (k, v) → ∃ b D kvs, bs[i]? = some b ∧ k = Sum.inr (one b.c) ∧ v = .ref D ∧ H D = some (DO P w D kvs) ∧ IsBd K H (pre stay b.c) kvs b.R ∧ b.es = b.R.map fun r => (pre stay b.c r, r)
  | _, _, .nil, i, k, v, h => by simp at h
  | _, _, .cons hd iB es r, 0, k, v, h => by
    cases h
    exact ⟨_, _, _, rfl, rfl, rfl, hd, iB, es⟩
  | _, _, .cons hd iB es r, i + 1, k, v, h => r.get i k v h
theorem IsBu.at {b : Bx} : ∀ {bkv : List (Key × V)} {bs : List Bx}, IsBu P w K H stay bkv bs → (bs.map Bx.c).Nodup → b ∈ bs → ∃ D kvs, valV bkv (Sum.inr (one b.c)) = some (.ref D) ∧ H D = some (DO P w D kvs) ∧ IsBd K H (pre stay b.c) kvs b.R
  | _, _, .nil, _, h => (nomatch h)
  | _, _, .cons (b := d) hd iB es r, nd, hm => by
    rw [List.map_cons, List.nodup_cons] at nd
    rcases List.mem_cons.mp hm with e | hm
    · subst e
      exact ⟨_, _, valV_pos rfl, hd, iB⟩
    · rw [valV_neg fun e => nd.1 (List.mem_map.mpr ⟨_, hm, (one_inj (Sum.inr.inj e)).symm⟩)]
      exact r.at nd.2 hm
end
/-- a dict locked: the tuples stay -/
theorem lock_tup {H : Hp} {D : Addr} {u o : HO} {K : PySem.W.Frag} (hD : H D = some u) (nt : ∀ xs, u ≠ .tup xs) (nf : ∀ o xs, u ≠ .frz o (.tup xs)) (b : Addr) (xs : List V) (h : SqT K H b xs) : SqT K (upd H D o) b xs := by
  rcases h with (h | ⟨u', h⟩) | h
  · exact .inl (.inl ((upd_ne (ne_of h hD (by intro z; exact nt xs z.symm))).trans h))
  · exact .inl (.inr ⟨u', (upd_ne (ne_of h hD (by intro z; exact nf u' xs z.symm))).trans h⟩)
  · exact .inr h
theorem walk_itemsN {P : Program} {w : World} {d : Addr} {ob : Obj} {kvs : List Ent} : Walk (ND.IiN P w d ob kvs) kvs.length (fun H => H d = some (.frz ob (DO P w d kvs))) (fun n H x H' => ∃ (p : Addr) (e : Ent), kvs[n]? = some e ∧ x = .ref p ∧ H p = none ∧ H' = upd H p (.tup [.ref e.2.1, e.2.2])) :=
  ⟨fun _ _ hn q => ⟨q, hn⟩, fun _ q => ⟨q, Nat.le_refl _⟩, fun _ _ _ _ _ _ y => y⟩
/-- all stays but two places that hold no sequence -/
theorem but_tup {H H' : Hp} {K : PySem.W.Frag} {a b : Addr} {u v : HO} (ha : H a = some u) (hb : H b = some v) (na : (∀ xs, u ≠ .tup xs) ∧ ∀ o xs, u ≠ .frz o (.tup xs)) (nb : (∀ xs, v ≠ .tup xs) ∧ ∀ o xs, v ≠ .frz o (.tup xs)) (kp : ∀ c o, c ≠ a → c ≠ b → H c = some o → H' c = some o) (c : Addr) (xs : List V) (h : SqT K H c xs) : SqT K H' c xs := by
  rcases h with (h | ⟨u', h⟩) | h
  · exact .inl (.inl (kp _ _ (fun e => by subst e; rw [ha] at h; exact na.1 xs (Option.some.inj h)) (fun e => by subst e; rw [hb] at h; exact nb.1 xs (Option.some.inj h)) h))
  · exact .inl (.inr ⟨u', kp _ _ (fun e => by subst e; rw [ha] at h; exact na.2 u' xs (Option.some.inj h)) (fun e => by subst e; rw [hb] at h; exact nb.2 u' xs (Option.some.inj h)) h⟩)
  · exact .inr h
theorem but_lst {H H' : Hp} {K : PySem.W.Frag} {a b : Addr} {u v : HO} (ha : H a = some u) (hb : H b = some v) (na : (∀ xs, u ≠ .lst xs) ∧ ∀ o xs, u ≠ .frz o (.lst xs)) (nb : (∀ xs, v ≠ .lst xs) ∧ ∀ o xs, v ≠ .frz o (.lst xs)) (kp : ∀ c o, c ≠ a → c ≠ b → H c = some o → H' c = some o) {c : Addr} {xs : List V} (h : SqL K H c xs) : SqL K H' c xs := by
  rcases h with (h | ⟨u', h⟩) | h
  · exact .inl (.inl (kp _ _ (fun e => by subst e; rw [ha] at h; exact na.1 xs (Option.some.inj h)) (fun e => by subst e; rw [hb] at h; exact nb.1 xs (Option.some.inj h)) h))
  · exact .inl (.inr ⟨u', kp _ _ (fun e => by subst e; rw [ha] at h; exact na.2 u' xs (Option.some.inj h)) (fun e => by subst e; rw [hb] at h; exact nb.2 u' xs (Option.some.inj h)) h⟩)
  · exact .inr h
/-- found so far: whole branches, and the first of the next one -/
def Got (bs : List Bx) (i j : Nat) (p : List Fc) : Prop := (∃ b ∈ bs.take i, ∃ e ∈ b.es, e.1 = p ∧ ¬ Larger bs e.1 b.c e.2) ∨ ∃ b, bs[i]? = some b ∧ ∃ e ∈ b.es.take j, e.1 = p ∧ ¬ Larger bs e.1 b.c e.2
theorem got_next {bs : List Bx} {i : Nat} {b : Bx} (hb : bs[i]? = some b) (p : List Fc) : Got bs i b.es.length p ↔ Got bs (i + 1) 0 p := by
  unfold Got
  rw [List.take_add_one, hb]
  constructor
  · rintro (⟨d, hd, h⟩ | ⟨d, hd, h⟩)
    · exact .inl ⟨d, List.mem_append_left _ hd, h⟩
    · cases hd
      rw [List.take_length] at h
      exact .inl ⟨b, List.mem_append_right _ (by simp), h⟩
  · rintro (⟨d, hd, h⟩ | ⟨d, hd, e, he, _⟩)
    · rcases List.mem_append.mp hd with q | q
      · exact .inl ⟨d, q, h⟩
      · have : d = b := by simpa using q
        subst this
        exact .inr ⟨d, rfl, by rw [List.take_length]; exact h⟩
    · simp at he
theorem got_step {bs : List Bx} {i j : Nat} {b : Bx} (hb : bs[i]? = some b) {e : List Fc × List Fc} (he : b.es[j]? = some e) (p : List Fc) : Got bs i (j + 1) p ↔ (Got bs i j p ∨ (e.1 = p ∧ ¬ Larger bs e.1 b.c e.2)) := by
  unfold Got
  constructor
  · rintro (h | ⟨d, hd, x, hx, h⟩)
    · exact .inl (.inl h)
    · rw [hb] at hd
      cases hd
      rw [List.take_add_one, he] at hx
      rcases List.mem_append.mp hx with q | q
      · exact .inl (.inr ⟨b, hb, x, q, h⟩)
      · have : x = e := by simpa using q
        subst this
        exact .inr h
  · rintro ((h | ⟨d, hd, x, hx, h⟩) | h)
    · exact .inl h
    · rw [hb] at hd
      cases hd
      exact .inr ⟨b, hb, x, by rw [List.take_add_one]; exact List.mem_append_left _ hx, h⟩
    · exact .inr ⟨b, hb, e, by rw [List.take_add_one, he]; exact List.mem_append_right _ (by simp), h⟩
def spJb (P : Program) (w : World) (K : PySem.W.Frag) : Sp := fun vs H Q _ => ∃ (l sd bd : Addr) (ovs : List V) (os qs : List (List Fc)) (skv : List (Key × V)) (cs : List Nat) (bkv : List (Key × V)) (bs : List Bx) (stay : Str),
  vs = [.ref l, .ref sd, .ref bd] ∧ SqL K H l ovs ∧ IsL K H ovs os ∧ H sd = some (.dK skv) ∧ IsRo K H os skv (steps cs qs) ∧ cs.Nodup ∧ H bd = some (.dK bkv) ∧ sd ≠ bd ∧ IsBu P w K H stay bkv bs ∧ (bs.map Bx.c).Nodup ∧
  (∀ b ∈ bs, b.c ∈ cs ∧ pbh qs (ones [b.c]) = some b.st ∧ b.c < 128 ∧ ∀ r ∈ b.R, (∀ f ∈ r, Low f) ∧ r.length ≤ 9000) ∧ Suf os qs ∧ (∀ o ∈ os, ∀ f ∈ o, Low f) ∧ os.length ≤ 1000 ∧ ((bs.map fun b => b.es.length).sum ≤ 15000000) ∧
  ∀ H' u rvs found, Same H H' → H u = none → H' u = some (.lst rvs) → IsL K H' rvs found → found.Nodup → (∀ p, p ∈ found ↔ ∃ b ∈ bs, ∃ e ∈ b.es, e.1 = p ∧ ¬ Larger bs e.1 b.c e.2) → found.length ≤ (bs.map fun b => b.es.length).sum → Q (.ref u) H'
section
variable {P : Program} {w : World} {K : PySem.W.Frag} {mg : Str → Option Value} {base : Heap}
theorem scJb : FnScope ["products", "steps", "branches", "found", "letter", "product", "rest", "start"] ["products", "steps", "branches"] (defScope sJoinBranches) := ⟨rfl, rfl, rfl, by decide +kernel, rfl, by decide +kernel, by decide +kernel⟩
theorem ok_jb (Dj : Df K mg "join_branches" sJoinBranches ["products", "steps", "branches"]) (Dl : Df K mg "is_in_larger_branch" sIsInLargerBranch ["product", "start", "products", "steps", "branches"]) (D : DfPb K mg) (mL : mg "list" = none) : FnOk P w K mg base CX0 6 Dj.f Dj.fd ["products", "steps", "branches"] (spJb P w K) := by
  have Gl : FnOk P w K mg base CX0 5 Dl.f Dl.fd ["product", "start", "products", "steps", "branches"] (spLb P w K) := ok_lb Dl D
  refine Dj.F.ok scJb (fun vs H Q E h => ?_) (fun cdv A outer s H vs Q E hr h => ?_)
  · obtain ⟨l, sd, bd, ovs, os, qs, skv, cs, bkv, bs, stay, rfl, _⟩ := h
    rfl
  · obtain ⟨l, sd, bd, ovs, os, qs, skv, cs, bkv, bs, stay, rfl, hl, iL, hsd, iR, cnd, hbd, nsb, iB, bnd, bst, su, lo, ol, few, k⟩ := h
    have hr5 : Room 5 _ := hr.mono (by decide)
    have hu1 : (A.deeper (envOfC "join_branches" (defScope sJoinBranches) s.heap.objs.size Dj.f cdv)).units + 1 < cLine := by have := hr.units; omega
    have zl := sizeLine_eq
    have bl := iB.len
    refine ⟨_, PSs.nox (pss_cons (ps_set (i := 3) scJb.nd rfl (.inl rfl) ND.pe_dnewN) (pss_cons (ps_lock (ps_for PassesOwn.never rfl (pi_keys (pv 2)) (pg_name (i := 4) scJb.nd rfl (.inl rfl)) (pss_one (ps_lock (ps_for PassesOwn.never rfl (ND.pi_itemsN (pe_dget hu1 (pv 2) (pv 4) (fun _ _ => rfl))) (pg_tup rfl (pgs_cons (pg_name (i := 5) scJb.nd rfl (.inl rfl)) (pgs_cons (pg_name (i := 6) scJb.nd rfl (.inl rfl)) pgs_nil))) (pss_cons (ps_set (i := 7) scJb.nd rfl (.inl rfl) (pe_tup (pa_cons (pe_tup (pa_cons pe_str (pa_cons (pv 4) pa_nil))) (ND.pa_starT (pv 6))))) (pss_one (ps_if (pt_not (pt_val (pe_call Gl hr5 (by rfl) Dl.g Dl.F.kp Dl.b .nil pass0 (pa_cons (pv 5) (pa_cons (pv 7) (pa_cons (pv 0) (pa_cons (pv 1) (pa_cons (pv 2) pa_nil)))))))) (pss_one (ND.ps_dputN (u9b hr) (pv 3) (pv 5) pe_bl rfl)) pss_nil)))))))) (pss_one (ps_ret (pe_callTy (ND.cr_listD rfl) (by rfl) mL (by decide +kernel) (pa_cons (pv 3) pa_nil)))))), ?_⟩
    intro D0 hD0
    have s0 := same_upd (o := DO P w D0 []) hD0
    have n0 : D0 ≠ bd := (ne_of_none hbd hD0).symm
    refine ⟨bd, .dK bkv, s0 _ _ hbd, trivial, fun od => ?_⟩
    -- the heap with the branches locked
    have hb1 : (upd H D0 (DO P w D0 [])) bd = some (.dK bkv) := s0 _ _ hbd
    have t1 : ∀ b xs, SqT K H b xs → SqT K (upd (upd H D0 (DO P w D0 [])) bd (.frz od (.dK bkv))) b xs := fun b xs h => lock_tup hb1 (fun _ z => by cases z) (fun _ _ z => by cases z) b xs (same_tup s0 _ _ h)
    have d1 : (upd (upd H D0 (DO P w D0 [])) bd (.frz od (.dK bkv))) D0 = some (DO P w D0 []) := (upd_ne n0).trans upd_same
    have k1 : ∀ b o, b ≠ bd → H b = some o → (upd (upd H D0 (DO P w D0 [])) bd (.frz od (.dK bkv))) b = some o := fun b o n e => (upd_ne n).trans (s0 _ _ e)
    have hB1 : (upd (upd H D0 (DO P w D0 [])) bd (.frz od (.dK bkv))) bd = some (.frz od (.dK bkv)) := upd_same
    have ndo : ∀ D kvs, H D = some (DO P w D kvs) → D ≠ bd := fun D kvs e z => by rw [z, hbd] at e; cases e
    -- same but for the dict that is filled
    refine ⟨.ref bd, rfl, bd, od, rfl, .inl ⟨bkv, hB1, for_it walk_keys (fun i σ H' => ∃ (fkv : List Ent) (fs : List (List Fc)) (y4 y5 y6 y7 : Option V), σ = [some (.ref l), some (.ref sd), some (.ref bd), some (.ref D0), y4, y5, y6, y7] ∧ H' D0 = some (DO P w D0 fkv) ∧ RW K H' fkv fs ∧ fs.Nodup ∧ (∀ p, p ∈ fs ↔ Got bs i 0 p) ∧ fs.length ≤ ((bs.take i).map fun b => b.es.length).sum ∧ H' bd = some (.frz od (.dK bkv)) ∧ ∀ b o, b ≠ bd → H b = some o → H' b = some o)
      ⟨[], [], _, _, _, _, rfl, d1, ⟨rfl, fun i e r h => by simp at h⟩, List.nodup_nil, fun p => ⟨fun h => (nomatch h), fun h => ?_⟩, Nat.zero_le _, hB1, k1⟩ (fun _ _ _ _ ⟨_, _, _, _, _, _, _, _, _, _, _, _, h, _⟩ => h) ?_ ?_⟩⟩
    · rcases h with ⟨b, hb, _⟩ | ⟨b, _, e, he, _⟩
      · simp at hb
      · simp at he
    · rintro i v σ G G' hi ⟨fkv, fs, y4, y5, y6, y7, rfl, gD, rw', fnd, fm, fl, gbd, kp⟩ ⟨rfl, ky, v1, hk, rfl⟩
      obtain ⟨b, D9, kvs9, hb, rfl, e9, _, _, es⟩ := iB.get i _ _ hk
      have bm := List.mem_of_getElem? hb
      obtain ⟨D1, kvs, hv, hD1, iBd⟩ := iB.at bnd bm
      obtain ⟨bc, bst1, b128, bR⟩ := bst b bm
      have n1 : D1 ≠ bd := ndo _ _ hD1
      have n01 : D0 ≠ D1 := (ne_of_none hD1 hD0).symm
      have gD1 := kp _ _ n1 hD1
      have iBl := iBd.len
      have esl : b.es.length = b.R.length := by rw [es, List.length_map]
      have dgk : ∀ {M : Hp}, M bd = some (.frz od (.dK bkv)) → DGet M bd (.str (one b.c)) (some (.ref D1)) := fun hM => .inl ⟨bkv, Sum.inr (one b.c), .inr ⟨od, hM⟩, rfl, hv.symm⟩
      refine ⟨D1, DO P w D1 kvs, gD1, trivial, fun od2 => ?_⟩
      have l1 : ∀ b xs, SqT K G' b xs → SqT K (upd G' D1 (.frz od2 (DO P w D1 kvs))) b xs := fun b xs h => lock_tup gD1 (fun _ z => by cases z) (fun _ _ z => by cases z) b xs h
      have dnt : (∀ xs, DO P w D1 kvs ≠ .tup xs) ∧ ∀ o xs, DO P w D1 kvs ≠ .frz o (.tup xs) := ⟨fun _ z => (by cases z), fun _ _ z => (by cases z)⟩
      have bnt : (∀ xs, HO.dK bkv ≠ .tup xs) ∧ ∀ o xs, HO.dK bkv ≠ .frz o (.tup xs) := ⟨fun _ z => (by cases z), fun _ _ z => (by cases z)⟩
      refine ⟨.ref bd, rfl, .str (one b.c), rfl, bd, _, rfl, dgk ((upd_ne n1.symm).trans gbd), D1, od2, kvs, rfl, upd_same, for_it walk_itemsN (fun j σ H' => ∃ (fkv : List Ent) (fs : List (List Fc)) (y5 y6 y7 : Option V), σ = [some (.ref l), some (.ref sd), some (.ref bd), some (.ref D0), some (.str (one b.c)), y5, y6, y7] ∧ H' D0 = some (DO P w D0 fkv) ∧ RW K H' fkv fs ∧ fs.Nodup ∧ (∀ p, p ∈ fs ↔ Got bs i j p) ∧ fs.length ≤ ((bs.take i).map fun b => b.es.length).sum + j ∧ H' bd = some (.frz od (.dK bkv)) ∧ H' D1 = some (.frz od2 (DO P w D1 kvs)) ∧ ∀ b o, b ≠ bd → b ≠ D1 → H b = some o → H' b = some o)
        ⟨fkv, fs, _, _, _, rfl, (upd_ne n01).trans gD, rw'.mono l1, fnd, fm, fl, (upd_ne n1.symm).trans gbd, upd_same, fun b o h1 h2 e => (upd_ne h2).trans (kp b o h1 e)⟩ (fun _ _ _ _ ⟨_, _, _, _, _, _, _, _, _, _, _, _, h, _⟩ => h) ?_ ?_⟩
      · rintro j x σ M M' hj ⟨fkv, fs, y5, y6, y7, rfl, gD, rw', fnd, fm, fl, gbd, gd1, kp⟩ ⟨pa, e, he, rfl, hpa, rfl⟩
        have sp := same_upd (o := .tup [.ref e.2.1, e.2.2]) hpa
        obtain ⟨r, hr', ek, isk, isv⟩ := iBd.get j e he
        have rm := List.mem_of_getElem? hr'
        obtain ⟨rL, r9⟩ := bR r rm
        have esj : b.es[j]? = some (pre stay b.c r, r) := by rw [es, List.getElem?_map, hr']; rfl
        have mo : ∀ c xs, SqT K H c xs → SqT K M c xs := but_tup hbd hD1 bnt dnt kp
        refine ⟨pa, [.ref e.2.1, e.2.2], rfl, SqT.of upd_same, rfl, _, _, rfl, _, _, rfl, rfl, ?_⟩
        obtain ⟨av, xs, ev, hav, iF⟩ := id isv
        have xl := iF.len
        refine ⟨.str (one b.c), rfl, by show 2 ≤ sizeLine; decide, fun f0 hf0 => ?_⟩
        have sf := same_upd (o := .tup [V.str "opt", V.str (one b.c)]) hf0
        refine ⟨e.2.2, rfl, av, xs, ev, same_tup sf _ _ (same_tup sp _ _ (mo _ _ hav)), by rw [List.length_cons, xl]; omega, fun y hy => ?_⟩
        have sy := same_upd (o := .tup (V.ref f0 :: xs)) hy
        have gy : ∀ {M0 : Hp}, (upd M0 y (.tup (V.ref f0 :: xs))) y = some (.tup (V.ref f0 :: xs)) := upd_same
        have gf0 := sy _ _ (show (upd (upd M pa (.tup [.ref e.2.1, e.2.2])) f0 (.tup [V.str "opt", V.str (one b.c)])) f0 = some (.tup [V.str "opt", V.str (one b.c)]) from upd_same)
        have sM := (sp.trans sf).trans sy
        have m3 : ∀ c xs, SqT K H c xs → SqT K _ c xs := fun c xs h => same_tup sM _ _ (mo c xs h)
        have nsd1 : sd ≠ D1 := fun z => by rw [z, hD1] at hsd; cases hsd
        have ibs := iB.bs m3 (fun D kvs' hD => by
          by_cases z : D = D1
          · subst z
            have q := hD.symm.trans hD1
            exact .inr ⟨od2, by rw [Option.some.inj q]; exact sM _ _ gd1⟩
          · exact .inl (sM _ _ (kp D _ (ndo _ _ hD) z hD)))
        refine ⟨.ref e.2.1, rfl, .ref y, rfl, .ref l, rfl, .ref sd, rfl, .ref bd, rfl, .ref e.2.1, .ref y, l, sd, bd, pre stay b.c r, b.c, r, ovs, os, qs, skv, cs, od, bkv, bs, stay, rfl, isk.mono m3, ⟨y, _, rfl, SqT.of gy, .cons ⟨f0, rfl, SqT.of gf0⟩ (iF.mono m3)⟩, ?_, iL.mono m3, sM _ _ (kp _ _ nsb nsd1 hsd), iR.mono m3, cnd, sM _ _ gbd, ibs, bnd, fun d hd => ⟨(bst d hd).1, (bst d hd).2.1⟩, su, b128, rL, lo, ol, fun H3 bo s3 hbo => ⟨bo, rfl, ?_⟩⟩
        · exact same_lst sM (but_lst hbd hD1 ⟨fun _ z => (by cases z), fun _ _ z => (by cases z)⟩ ⟨fun _ z => (by cases z), fun _ _ z => (by cases z)⟩ kp hl)
        have s3M := sM.trans s3
        have gD3 := s3M _ _ gD
        have rw3 := rw'.mono (same_tup s3M)
        have kp3 : ∀ b o, b ≠ bd → b ≠ D1 → H b = some o → H3 b = some o := fun b o h1 h2 e => s3M _ _ (kp b o h1 h2 e)
        cases bo with
        | true =>
          refine iteF ⟨fkv, fs, _, _, _, rfl, gD3, rw3, fnd, fun p => ?_, by omega, s3M _ _ gbd, s3M _ _ gd1, kp3⟩
          rw [fm, got_step hb esj]
          exact ⟨.inl, fun h => h.elim id fun h => absurd (hbo.mp rfl) h.2⟩
        | false =>
          have nl : ¬ Larger bs (pre stay b.c r) b.c r := fun h => by have := hbo.mpr h; cases this
          have isk3 : IsP K H3 (.ref e.2.1) (pre stay b.c r) := isk.mono fun c xs h => same_tup s3 _ _ (m3 c xs h)
          have suml : ((bs.take i).map fun b => b.es.length).sum + b.es.length ≤ 15000000 := by
            refine Nat.le_trans ?_ few
            have e1 : ((bs.take i).map fun b => b.es.length).sum + b.es.length = ((bs.take (i + 1)).map fun b => b.es.length).sum := by
              rw [List.take_add_one, hb, List.map_append, List.sum_append]
              simp
            rw [e1]
            conv => rhs; rw [← List.take_append_drop (i + 1) bs]
            rw [List.map_append, List.sum_append]
            exact Nat.le_add_right _ _
          have jl : j < b.es.length := (List.getElem?_eq_some_iff.mp esj).1
          have rwl := rw'.len
          refine iteT ⟨.ref D0, rfl, .ref e.2.1, rfl, D0, e.2.1, fkv, prodKey (pre stay b.c r), rfl, rfl, gD3, rw3.oks, isP_nk isk3, depth_prod _, by omega, ?_⟩
          refine ⟨_, addR fs (pre stay b.c r), _, _, _, rfl, upd_same, (rw3.put isk3).mono (upd_do gD3), addR_nd fnd, fun p => ?_, ?_, (upd_ne n0.symm).trans (s3M _ _ gbd), (upd_ne n01.symm).trans (s3M _ _ gd1), fun b o h1 h2 e => (upd_ne (ne_of_none e hD0)).trans (kp3 b o h1 h2 e)⟩
          · rw [addR_mem, fm, got_step hb esj]
            exact ⟨fun h => h.imp id fun h => ⟨h.symm, nl⟩, fun h => h.imp id fun h => h.1.symm⟩
          · have : (addR fs (pre stay b.c r)).length ≤ fs.length + 1 := by
              unfold addR
              split
              · exact Nat.le_succ _
              · rw [List.length_append]
                exact Nat.le_refl _
            omega
      · rintro σ M ⟨fkv, fs, y5, y6, y7, rfl, gD, rw', fnd, fm, fl, gbd, gd1, kp⟩
        refine ⟨gd1, fkv, fs, _, _, _, _, rfl, (upd_ne n01).trans gD, rw'.mono fun b xs h => lock_tup gd1 (fun _ z => by cases z) (fun _ _ z => by cases z) b xs h, fnd, fun p => ?_, ?_, (upd_ne n1.symm).trans gbd, fun b' o h1 e => ?_⟩
        · rw [fm, iBl, ← esl]
          exact got_next hb p
        · rw [List.take_add_one, hb, List.map_append, List.sum_append]
          have e1 : ((some b).toList.map fun b : Bx => b.es.length).sum = b.es.length := by simp
          rw [e1]
          omega
        · by_cases z : b' = D1
          · subst z
            rw [upd_same, ← hD1, e]
          · exact (upd_ne z).trans (kp b' o h1 z e)
    · rintro σ G ⟨fkv, fs, y4, y5, y6, y7, rfl, gD, rw', fnd, fm, fl, gbd, kp⟩
      rw [bl, List.take_length] at fl
      refine ⟨gbd, .ref D0, rfl, D0, fkv, rfl, .inl ((upd_ne n0).trans gD), fun u hu => ?_⟩
      have ml : ∀ b xs, SqT K G b xs → SqT K (upd G bd (.dK bkv)) b xs := fun b xs h => lock_tup gbd (fun _ z => by cases z) (fun _ _ z => by cases z) b xs h
      have su := same_upd (o := .lst (keyVs fkv)) hu
      have sH : Same H (upd G bd (.dK bkv)) := fun b o e => by
        by_cases z : b = bd
        · subst z
          rw [upd_same, ← hbd, e]
        · exact (upd_ne z).trans (kp b o z e)
      refine k _ u (keyVs fkv) fs (sH.trans su) ?_ upd_same ((rw'.isl.mono ml).mono (same_tup su)) fnd (fun p => ?_) fl
      · cases q : H u with
        | none => rfl
        | some o => rw [sH _ _ q] at hu; cases hu
      · rw [fm, bl]
        unfold Got
        rw [List.take_length]
        constructor
        · rintro (h | ⟨b, h, _⟩)
          · exact h
          · simp at h
        · exact .inl
end
end DW
/-! common_from: what its branches are -/
namespace DW
open PySem PySem.Spec PyProof.Rows L2 TL
set_option autoImplicit false
/-- a branch made by branch_of from what was found behind its letter -/
def mkB (stay : Str) (c : Nat) (st R : List (List Fc)) : Bx := ⟨c, st, R, R.map fun r => (pre stay c r, r)⟩
theorem pre_word {stay : Str} {c : Nat} (h : c ∉ tl stay) (r : List Fc) (w : List Nat) : Lg (pre stay c r) (c :: w) ↔ Lg r w := by
  rw [pre_lg, stf_out h, opt_in]
theorem CfOk.pre_inj {z stay : Str} {st R : List (List Fc)} (C : CfOk z st R) {c : Nat} (h : c ∉ tl stay) {r r' : List Fc} (hr : r ∈ R) (hr' : r' ∈ R) (e : pre stay c r = pre stay c r') : r = r' := by
  refine C.anti r' hr' r hr ((inc_lang (fok_w1 (C.rz _ hr).ok) (fok_w1 (C.rz _ hr').ok)).mpr fun w hw => ?_)
  rw [← pre_word h r' w, ← e, pre_word h r w]
  exact hw
/-- branch_of meets no product twice -/
theorem CfOk.new {z stay : Str} {st R : List (List Fc)} (C : CfOk z st R) {c : Nat} (h : c ∉ tl stay) (i : Nat) (r : List Fc) (hi : R[i]? = some r) : pre stay c r ∉ (R.take i).map (pre stay c) := fun q => by
  obtain ⟨r', hr', e⟩ := List.mem_map.mp q
  have := C.pre_inj h (List.mem_of_mem_take hr') (List.mem_of_getElem? hi) e
  subst this
  obtain ⟨j, hj⟩ := List.getElem?_of_mem hr'
  rw [List.getElem?_take] at hj
  split at hj
  · next lt =>
    obtain ⟨li, ei⟩ := List.getElem?_eq_some_iff.mp hi
    obtain ⟨lj, ej⟩ := List.getElem?_eq_some_iff.mp hj
    have := List.pairwise_iff_getElem.mp C.nd j i lj li lt
    rw [ei, ej] at this
    exact this rfl
  · cases hj
theorem mkB_ok {z stay : Str} {qs st R : List (List Fc)} {c : Nat} (C : CfOk z st R) (stp : pbh qs (ones [c]) = some st) (ne : st ≠ qs) (cz : c ∈ tl z) (nst : c ∉ tl stay) : BrOk z qs stay (mkB stay c st R) where
  stp := stp
  ne := ne
  cz := cz
  nst := nst
  ok := C
  ent := fun e he => by
    obtain ⟨r, hr, rfl⟩ := List.mem_map.mp he
    exact ⟨hr, rfl⟩
  all := fun r hr => List.mem_map.mpr ⟨(pre stay c r, r), List.mem_map.mpr ⟨r, hr, rfl⟩, rfl⟩
  few := by
    show (R.map _).length ≤ R.length
    rw [List.length_map]
    exact Nat.le_refl _
/-- equal places are equal suffixes -/
theorem plc_inj : ∀ {os qs rs : List (List Fc)}, Suf os qs → Suf os rs → plc os qs = plc os rs → qs = rs
  | [], [], [], _, _, _ => rfl
  | o :: os, q :: qs, r :: rs, s, t, e => by
    obtain ⟨h1, h2⟩ := List.cons.inj (show ((o.length - q.length : Nat) : Int) :: plc os qs = ((o.length - r.length : Nat) : Int) :: plc os rs from e)
    have l1 := s.1.length_le
    have l2 := t.1.length_le
    have l : q.length = r.length := by omega
    have e1 := suf_drop s.1
    have e2 := suf_drop t.1
    rw [l] at e1
    rw [e1.symm.trans e2, plc_inj s.2 t.2 h2]
  | [], _ :: _, _, h, _, _ => h.elim
  | [], [], _ :: _, _, h, _ => h.elim
  | _ :: _, [], _, h, _, _ => h.elim
  | _ :: _, _ :: _, [], _, h, _ => h.elim
/-- the letters that leave all places as they are -/
def stayL (cs : List Nat) (qs : List (List Fc)) : List Nat := cs.filter fun c => decide (pbh qs (ones [c]) = some qs)
/-- the letters of the branches -/
def moveL (cs : List Nat) (qs : List (List Fc)) : List Nat := cs.filter fun c => (pbh qs (ones [c])).isSome && !decide (pbh qs (ones [c]) = some qs)
theorem asc_len {l m : List Nat} (h1 : l.Pairwise (· < ·)) (h2 : m.Pairwise (· < ·)) (h : ∀ c ∈ l, c ∈ m) : l.Sublist m := asc_sub _ _ h1 h2 h
/-- all branches made: what join_branches finds is right -/
theorem joins_of {z : Str} (al : Alph z) {qs : List (List Fc)} {cs : List Nat} (L : Lets z qs cs) {stay : Str} (es : tl stay = stayL cs qs) {bs : List Bx} (eb : bs.map Bx.c = moveL cs qs) (hb : ∀ b ∈ bs, ∃ st R, b = mkB stay b.c st R ∧ pbh qs (ones [b.c]) = some st ∧ CfOk z st R) {found : List (List Fc)}
    (nd : found.Nodup) (mem : ∀ p, p ∈ found ↔ ∃ b ∈ bs, ∃ e ∈ b.es, e.1 = p ∧ ¬ Larger bs e.1 b.c e.2) (few : found.length ≤ (bs.map fun b => b.es.length).sum) : Joins z qs stay bs found := by
  have smem : ∀ c, c ∈ tl stay ↔ c ∈ cs ∧ pbh qs (ones [c]) = some qs := fun c => by
    rw [es]
    unfold stayL
    rw [List.mem_filter, decide_eq_true_iff]
  have mmem : ∀ c, c ∈ moveL cs qs ↔ c ∈ cs ∧ (pbh qs (ones [c])).isSome = true ∧ ¬ pbh qs (ones [c]) = some qs := fun c => by
    unfold moveL
    rw [List.mem_filter, Bool.and_eq_true, Bool.not_eq_true', decide_eq_false_iff_not]
  have mpw : (bs.map Bx.c).Pairwise (· < ·) := by
    rw [eb]
    exact L.pw.sublist List.filter_sublist
  refine ⟨?_, fun b h => ?_, fun b h d h' e => ?_, fun c hc => ((smem c).mp hc).2, fun c hc hs => ?_, mem, nd, few, ?_⟩
  · rw [es]
    exact asc_sub _ _ (L.pw.sublist List.filter_sublist) al.1 fun c hc => L.sub c (List.mem_filter.mp hc).1
  · obtain ⟨st, R, e, stp, C⟩ := hb b h
    have bm : b.c ∈ moveL cs qs := by rw [← eb]; exact List.mem_map.mpr ⟨b, h, rfl⟩
    obtain ⟨m1, _, m3⟩ := (mmem b.c).mp bm
    rw [e]
    exact mkB_ok C stp (fun q => m3 (by rw [stp, q])) (L.sub _ m1) fun q => m3 ((smem _).mp q).2
  · obtain ⟨i, hi⟩ := List.getElem?_of_mem h
    obtain ⟨j, hj⟩ := List.getElem?_of_mem h'
    have pw := List.pairwise_iff_getElem.mp mpw
    obtain ⟨li, ei⟩ := List.getElem?_eq_some_iff.mp hi
    obtain ⟨lj, ej⟩ := List.getElem?_eq_some_iff.mp hj
    rcases Nat.lt_trichotomy i j with q | q | q
    · have := pw i j (by rw [List.length_map]; exact li) (by rw [List.length_map]; exact lj) q
      rw [List.getElem_map, List.getElem_map, ei, ej, e] at this
      exact absurd this (Nat.lt_irrefl _)
    · subst q
      rw [← ei, ej]
    · have := pw j i (by rw [List.length_map]; exact lj) (by rw [List.length_map]; exact li) q
      rw [List.getElem_map, List.getElem_map, ei, ej, e] at this
      exact absurd this (Nat.lt_irrefl _)
  · have cm := L.all c hs
    have : c ∈ moveL cs qs := (mmem c).mpr ⟨cm, hs, fun q => hc ((smem c).mpr ⟨cm, q⟩)⟩
    rw [← eb] at this
    obtain ⟨b, hb, e⟩ := List.mem_map.mp this
    exact ⟨b, hb, e⟩
  · have : (bs.map Bx.c).length ≤ (tl z).length := (asc_sub _ _ mpw al.1 fun c hc => by
      rw [eb] at hc
      exact L.sub c (List.mem_filter.mp hc).1).length_le
    rw [List.length_map] at this
    exact Nat.le_trans this al.2.2.1
/-- no branch: the stay alone -/
theorem lone_of {z : Str} (al : Alph z) {qs : List (List Fc)} (ok : ∀ q ∈ qs, ∀ f ∈ q, FOk z f) {cs : List Nat} (L : Lets z qs cs) {stay : Str} (es : tl stay = stayL cs qs) (no : moveL cs qs = []) : CfOk z qs [stf stay] := by
  have smem : ∀ c, c ∈ tl stay ↔ c ∈ cs ∧ pbh qs (ones [c]) = some qs := fun c => by
    rw [es]
    unfold stayL
    rw [List.mem_filter, decide_eq_true_iff]
  refine lone_cf ok ?_ (fun c hc => ((smem c).mp hc).2) fun c hc => ?_
  · rw [es]
    exact asc_sub _ _ (L.pw.sublist List.filter_sublist) al.1 fun c hc => L.sub c (List.mem_filter.mp hc).1
  · cases e : (pbh qs (ones [c])).isSome with
    | false => rfl
    | true =>
      have cm := L.all c e
      have : c ∈ moveL cs qs := by
        unfold moveL
        rw [List.mem_filter, e]
        refine ⟨cm, ?_⟩
        rw [Bool.true_and, Bool.not_eq_true', decide_eq_false_iff_not]
        exact fun q => hc ((smem c).mpr ⟨cm, q⟩)
      rw [no] at this
      cases this
end DW
/-! tuples of numbers as data -/
namespace DW
open PySem PySem.Spec PyProof.Rows L2 TL
set_option autoImplicit false
theorem datas_nums' : ∀ ns : List Int, NestedKey.datas (ns.map NestedKey.num) = ns.map PyData.int
  | [] => rfl
  | n :: ns => by
    rw [List.map_cons, List.map_cons]
    show _ :: _ = _
    rw [datas_nums' ns]
    rfl
theorem data_num' (ns : List Int) : (numKey ns).data = .tuple (ns.map PyData.int) := by
  show PyData.tuple (NestedKey.datas _) = _
  rw [datas_nums']
theorem ints_lay : ∀ ns : List Int, PyData.canLayAll0 (ns.map PyData.int) = true ∧ PyData.depthAll (ns.map PyData.int) = 0
  | [] => ⟨rfl, rfl⟩
  | n :: ns => by
    obtain ⟨h1, h2⟩ := ints_lay ns
    rw [List.map_cons]
    exact ⟨by simp only [PyData.canLayAll0, PyData.canLay0, h1, Bool.and_self], by simp only [PyData.depthAll, PyData.depth, h2]; rfl⟩
theorem num_shaped (ns : List Int) : SeqAt.shaped (numKey ns).data = true := by
  obtain ⟨h1, h2⟩ := ints_lay ns
  rw [data_num']
  unfold SeqAt.shaped
  rw [Bool.and_eq_true]
  exact ⟨by simp only [PyData.canLay0, h1], decide_eq_true (by simp only [PyData.depth, h2]; omega)⟩
theorem ints_eqv : ∀ a b : List Int, PyData.eqvAll (a.map PyData.int) (b.map PyData.int) = decide (a = b)
  | [], [] => by simp [PyData.eqvAll]
  | [], _ :: _ => by simp [PyData.eqvAll]
  | _ :: _, [] => by simp [PyData.eqvAll]
  | x :: a, y :: b => by
    rw [List.map_cons, List.map_cons]
    have ih := ints_eqv a b
    simp only [PyData.eqvAll, PyData.eqv, ih]
    by_cases e : x = y
    · subst e
      by_cases f : a = b
      · subst f; simp
      · simp [f]
    · simp [e]
theorem num_eqv (a b : List Int) : PyData.eqv (numKey a).data (numKey b).data = decide (a = b) := by
  rw [data_num', data_num']
  show PyData.eqvAll _ _ = _
  exact ints_eqv a b
theorem tup_nk {K : PySem.W.Frag} {H : Hp} {t : Addr} {ns : List Int} (h : SqT K H t (ns.map V.int)) : ND.NK K H (numKey ns) (.ref t) := .tup h (nums_nk ns)
theorem tup_dp {K : PySem.W.Frag} {H : Hp} {t : Addr} {ns : List Int} (h : SqT K H t (ns.map V.int)) : Dp K H (.ref t) (numKey ns).data := ND.NK.dp _ _ (tup_nk h)
end DW
/-! common_from: lemmas for its loop and its table -/
namespace DW
open PySem PySem.Spec PyProof.Rows L2 TL
set_option autoImplicit false
open ND (Ent DO KOks NK NKs valN putN setN keyVs)
section
variable {P : Program} {w : World} {K : PySem.W.Frag} {H H' : Hp} {stay : Str}
theorem IsBu.mono2 (m : ∀ b xs, SqT K H b xs → SqT K H' b xs) : ∀ {bkv : List (Key × V)} {bs : List Bx}, (∀ D kvs, (∃ k, (k, V.ref D) ∈ bkv) → H D = some (DO P w D kvs) → H' D = some (DO P w D kvs)) → IsBu P w K H stay bkv bs → IsBu P w K H' stay bkv bs
  | _, _, _, .nil => .nil
  | _, _, rd, .cons hd iB es r => .cons (rd _ _ ⟨_, List.mem_cons_self⟩ hd) (iB.mono m) es (r.mono2 m fun D kvs ⟨k, hk⟩ => rd D kvs ⟨k, List.mem_cons_of_mem _ hk⟩)
theorem IsBu.snoc {D : Addr} {kvs : List Ent} {b : Bx} (hd : H D = some (DO P w D kvs)) (iB : IsBd K H (pre stay b.c) kvs b.R) (es : b.es = b.R.map fun r => (pre stay b.c r, r)) : ∀ {bkv : List (Key × V)} {bs : List Bx}, IsBu P w K H stay bkv bs → IsBu P w K H stay (bkv ++ [(Sum.inr (one b.c), .ref D)]) (bs ++ [b])
  | _, _, .nil => .cons hd iB es .nil
  | _, _, .cons hd' iB' es' r => .cons hd' iB' es' (r.snoc hd iB es)
theorem IsBu.fresh {c : Nat} : ∀ {bkv : List (Key × V)} {bs : List Bx}, IsBu P w K H stay bkv bs → (∀ b ∈ bs, b.c ≠ c) → valV bkv (Sum.inr (one c)) = none
  | _, _, .nil, _ => rfl
  | _, _, .cons (b := d) hd iB es r, n => by
    rw [valV_neg fun e => n _ List.mem_cons_self (one_inj (Sum.inr.inj e))]
    exact r.fresh fun x hx => n x (List.mem_cons_of_mem _ hx)
end
/-- what a store leaves in a table -/
theorem mem_putN {kvs : List Ent} {k : NestedKey} {b : Addr} {v : V} {e : Ent} (h : e ∈ putN kvs k b v) : e ∈ kvs ∨ (e.1 = k ∧ e.2.2 = v ∧ (e.2.1 = b ∨ ∃ e0 ∈ kvs, e0.1 = k ∧ e0.2.1 = e.2.1)) := by
  unfold ND.putN at h
  split at h
  · obtain ⟨e0, h0, rfl⟩ := List.mem_map.mp h
    unfold ND.setN
    split
    · next q => exact .inr ⟨q, rfl, .inr ⟨e0, h0, q, rfl⟩⟩
    · exact .inl h0
  · rcases List.mem_append.mp h with q | q
    · exact .inl q
    · rw [List.mem_singleton.mp q]
      exact .inr ⟨rfl, rfl, .inl rfl⟩
theorem val_putN (k : NestedKey) (b : Addr) (v : V) (kvs : List Ent) : (valN (putN kvs k b v) k).isSome = true := by
  have has : ∀ {l : List Ent} {e : Ent}, e ∈ l → e.1 = k → (valN l k).isSome = true := fun {l e} h q => by
    cases z : valN l k with
    | some v => rfl
    | none => exact absurd q (valN_none z e h)
  by_cases q : (valN kvs k).isSome = true
  · obtain ⟨u, hu⟩ := Option.isSome_iff_exists.mp q
    obtain ⟨j, e, hj, ek, _⟩ := valN_some hu
    refine has (e := setN k v e) ?_ ?_
    · unfold ND.putN
      rw [if_pos q]
      exact List.mem_map.mpr ⟨e, List.mem_of_getElem? hj, rfl⟩
    · unfold ND.setN
      rw [if_pos ek]
      exact ek
  · refine has (e := (k, b, v)) ?_ rfl
    unfold ND.putN
    rw [if_neg q]
    exact List.mem_append_right _ (by simp)
theorem nodup_putN {kvs : List Ent} (nd : (kvs.map (·.1)).Nodup) (k : NestedKey) (b : Addr) (v : V) : ((putN kvs k b v).map (·.1)).Nodup := by
  unfold ND.putN
  split
  · have e : (kvs.map (setN k v)).map (·.1) = kvs.map (·.1) := by
      rw [List.map_map]
      refine List.map_congr_left fun e _ => ?_
      show (setN k v e).1 = e.1
      unfold ND.setN
      split <;> rfl
    rw [e]
    exact nd
  · next q =>
    rw [List.map_append, List.nodup_append]
    refine ⟨nd, by simp, fun a ha c hc => ?_⟩
    have : c = k := by simpa using hc
    subst this
    intro e
    subst e
    obtain ⟨x, hx, ex⟩ := List.mem_map.mp ha
    cases z : valN kvs a with
    | some u => rw [z] at q; exact q rfl
    | none => exact valN_none z x hx ex
/-- the letters of rows that move -/
def moveR (qs : List (List Fc)) (rows : List (Nat × Option (List (List Fc)))) : List Nat := (rows.filter fun r => !decide (r.2 = some qs)).map (·.1)
theorem moveR_all (qs : List (List Fc)) : ∀ cs : List Nat, moveR qs (steps cs qs) = moveL cs qs
  | [] => rfl
  | c :: cs => by
    have ih := moveR_all qs cs
    unfold moveR moveL steps stepsO at *
    rw [List.filter_filter] at ih
    rw [List.map_cons, List.filter_cons, List.filter_cons]
    by_cases e : pbh qs (ones [c]) = some qs
    · simp [e, ih]
    · cases q : pbh qs (ones [c]) with
      | none => simp [q, ih]
      | some st =>
        rw [q] at e
        simp [q, ih, e]
theorem moveR_snoc (qs : List (List Fc)) (rows : List (Nat × Option (List (List Fc)))) {i c : Nat} {o : Option (List (List Fc))} (h : rows[i]? = some (c, o)) : moveR qs (rows.take (i + 1)) = moveR qs (rows.take i) ++ if o = some qs then [] else [c] := by
  unfold moveR
  rw [List.take_add_one, h, List.filter_append, List.map_append]
  congr 1
  by_cases e : o = some qs
  · simp [e]
  · simp [e]
/-- how many places there are -/
def allP : List (List Fc) → List (List Int)
  | [] => [[]]
  | o :: os => ((List.range (o.length + 1)).map fun n => (allP os).map fun ns => ((n : Nat) : Int) :: ns).flatten
theorem allP_has : ∀ {os qs : List (List Fc)}, Suf os qs → plc os qs ∈ allP os
  | [], [], _ => List.mem_singleton.mpr rfl
  | o :: os, q :: qs, s => by
    refine List.mem_flatten.mpr ⟨_, List.mem_map.mpr ⟨o.length - q.length, List.mem_range.mpr (by omega), rfl⟩, ?_⟩
    exact List.mem_map.mpr ⟨plc os qs, allP_has s.2, rfl⟩
  | [], _ :: _, h => h.elim
  | _ :: _, [], h => h.elim
end DW
/-! star_product, common_from -/
namespace DW
open PySem PySem.Spec PyProof.Rows L2 TL
set_option autoImplicit false
open ND (Ent DO KOks NK NKs valN putN setN keyVs)
def spStf (K : PySem.W.Frag) : Sp := fun vs H Q _ => ∃ z : Str, vs = [.str z] ∧ ∀ H' v, Same H H' → IsP K H' v (stf z) → Q v H'
/-- the table of common_from: from places to what is found from there on -/
structure TabE (K : PySem.W.Frag) (H : Hp) (z : Str) (os : List (List Fc)) (e : Ent) (qs : List (List Fc)) (a : Addr) (rvs : List V) (R : List (List Fc)) : Prop where
  su : Suf os qs
  key : e.1 = numKey (plc os qs)
  nk : NK K H e.1 (.ref e.2.1)
  val : e.2.2 = .ref a
  lst : H a = some (.lst rvs)
  isl : IsL K H rvs R
  cf : CfOk z qs R
def Tab (P : Program) (w : World) (K : PySem.W.Frag) (H : Hp) (z : Str) (os : List (List Fc)) (T : Addr) : Prop := ∃ tk : List Ent, H T = some (DO P w T tk) ∧ (tk.map (·.1)).Nodup ∧ ∀ e ∈ tk, ∃ qs a rvs R, TabE K H z os e qs a rvs R
theorem tab_upd {P : Program} {w : World} {K : PySem.W.Frag} {H : Hp} {z : Str} {os : List (List Fc)} {T b0 : Addr} {u o : HO} (h : Tab P w K H z os T) (hb : H b0 = some u) (nT : T ≠ b0) (nt : ∀ xs, u ≠ .tup xs) (nf : ∀ o xs, u ≠ .frz o (.tup xs)) (nl : ∀ xs, u ≠ .lst xs) : Tab P w K (upd H b0 o) z os T := by
  obtain ⟨tk, hT, nd, te⟩ := h
  refine ⟨tk, (upd_ne nT).trans hT, nd, fun e he => ?_⟩
  obtain ⟨qs, a, rvs, R, E⟩ := te e he
  have m := lock_tup (o := o) (K := K) hb nt nf
  exact ⟨qs, a, rvs, R, E.su, E.key, ND.NK.mono m _ _ E.nk, E.val, (upd_ne fun q => by have := E.lst; rw [q, hb] at this; exact nl _ (Option.some.inj this)).trans E.lst, E.isl.mono m, E.cf⟩
theorem tab_same {P : Program} {w : World} {K : PySem.W.Frag} {H H' : Hp} {z : Str} {os : List (List Fc)} {T : Addr} (h : Tab P w K H z os T) (s : Same H H') : Tab P w K H' z os T := by
  obtain ⟨tk, hT, nd, te⟩ := h
  refine ⟨tk, s _ _ hT, nd, fun e he => ?_⟩
  obtain ⟨qs, a, rvs, R, E⟩ := te e he
  exact ⟨qs, a, rvs, R, E.su, E.key, ND.NK.mono (same_tup s) _ _ E.nk, E.val, s _ _ E.lst, E.isl.mono (same_tup s), E.cf⟩
theorem Suf.mem : ∀ {os qs : List (List Fc)}, Suf os qs → ∀ q ∈ qs, ∃ o ∈ os, q <:+ o
  | [], [], _, q, h => (nomatch h)
  | o :: os, a :: qs, s, q, h => by
    rcases List.mem_cons.mp h with rfl | h
    · exact ⟨o, List.mem_cons_self, s.1⟩
    · obtain ⟨x, hx, sx⟩ := Suf.mem s.2 q h
      exact ⟨x, List.mem_cons_of_mem _ hx, sx⟩
  | [], _ :: _, h, _, _ => h.elim
  | _ :: _, [], h, _, _ => h.elim
def spCf (n : Nat) (P : Program) (w : World) (K : PySem.W.Frag) : Sp := fun vs H Q _ => ∃ (l t T : Addr) (z : Str) (ovs : List V) (os qs : List (List Fc)), vs = [.ref l, .ref t, .ref T] ∧ 6 + totL qs < n ∧ SqL K H l ovs ∧ IsL K H ovs os ∧ SqT K H t ((plc os qs).map V.int) ∧ Suf os qs ∧ Alph z ∧ (∀ o ∈ os, (∀ f ∈ o, FOk z f) ∧ o.length ≤ 20) ∧ os ≠ [] ∧ os.length ≤ 1000 ∧ totL qs ≤ 16 ∧ 2 ≤ os.length ∧ (allP os).length ≤ 15000000 ∧ Tab P w K H z os T ∧
  ∀ H' u rvs R, (∀ b o, b ≠ T → H b = some o → H' b = some o) → Tab P w K H' z os T → H' u = some (.lst rvs) → IsL K H' rvs R → CfOk z qs R → Q (.ref u) H'
theorem IsRo.get {K : PySem.W.Frag} {H : Hp} {os : List (List Fc)} : ∀ {kvs : List (Key × V)} {rows : List (Nat × Option (List (List Fc)))}, IsRo K H os kvs rows → ∀ (i : Nat) (k : Key) (v : V), kvs[i]? = some (k, v) → ∃ c o, rows[i]? = some (c, o) ∧ k = Sum.inr (one c) ∧ PlO K H os v o
  | _, _, .nil, i, k, v, h => by simp at h
  | _, _, .cons h' r, 0, k, v, h => by
    cases h
    exact ⟨_, _, rfl, rfl, h'⟩
  | _, _, .cons h' r, i + 1, k, v, h => r.get i k v h
theorem steps_row {cs : List Nat} {qs : List (List Fc)} {c : Nat} {o : Option (List (List Fc))} (h : (c, o) ∈ steps cs qs) : c ∈ cs ∧ ∃ st, o = some st ∧ pbh qs (ones [c]) = some st := by
  obtain ⟨h1, h2⟩ := List.mem_filter.mp h
  obtain ⟨d, hd, e⟩ := List.mem_map.mp h1
  cases e
  obtain ⟨st, q⟩ := Option.isSome_iff_exists.mp h2
  exact ⟨hd, st, q, q⟩
/-- the letters of rows that stay -/
def stayR (qs : List (List Fc)) (rows : List (Nat × Option (List (List Fc)))) : List Nat := (rows.filter fun r => decide (r.2 = some qs)).map (·.1)
theorem stayR_all (qs : List (List Fc)) : ∀ cs : List Nat, stayR qs (steps cs qs) = stayL cs qs
  | [] => rfl
  | c :: cs => by
    have ih := stayR_all qs cs
    unfold stayR stayL steps stepsO at *
    rw [List.filter_filter] at ih
    rw [List.map_cons, List.filter_cons, List.filter_cons]
    by_cases e : pbh qs (ones [c]) = some qs
    · simp [e, ih]
    · cases q : pbh qs (ones [c]) with
      | none => simp [q, ih]
      | some st =>
        rw [q] at e
        simp [q, ih, e]
theorem stayR_snoc (qs : List (List Fc)) (rows : List (Nat × Option (List (List Fc)))) {i c : Nat} {o : Option (List (List Fc))} (h : rows[i]? = some (c, o)) : stayR qs (rows.take (i + 1)) = stayR qs (rows.take i) ++ if o = some qs then [c] else [] := by
  unfold stayR
  rw [List.take_add_one, h, List.filter_append, List.map_append]
  congr 1
  by_cases e : o = some qs
  · simp [e]
  · simp [e]
structure DfCf (K : PySem.W.Frag) (mg : Str → Option Value) where
  f : Df K mg "common_from" sCommonFrom ["products", "places", "table"]
  pl : Df K mg "places_by_letter" sPlacesByLetter ["products", "places"]
  lo : Df K mg "letters_of" sLettersOf ["factors"]
  sw : Df K mg "subwords_product" sSubwordsProduct ["word"]
  bo : Df K mg "branch_of" sBranchOf ["letter", "stay", "rests"]
  fr : Df K mg "in_front" sInFront ["factor", "product"]
  jb : Df K mg "join_branches" sJoinBranches ["products", "steps", "branches"]
  lb : Df K mg "is_in_larger_branch" sIsInLargerBranch ["product", "start", "products", "steps", "branches"]
  st : Df K mg "star_product" sStarProduct ["letters"]
  P : DfPb K mg
  mL : mg "list" = none
section
variable {P : Program} {w : World} {K : PySem.W.Frag} {mg : Str → Option Value} {base : Heap}
theorem scStf : FnScope ["letters"] ["letters"] (defScope sStarProduct) := ⟨rfl, rfl, rfl, by decide +kernel, rfl, by decide +kernel, by decide +kernel⟩
theorem ok_stf (D : Df K mg "star_product" sStarProduct ["letters"]) : FnOk P w K mg base CX0 1 D.f D.fd ["letters"] (spStf K) := by
  refine D.F.ok scStf (fun vs H Q E h => ?_) (fun cdv A outer s H vs Q E hr h => ?_)
  · obtain ⟨z, rfl, _⟩ := h
    rfl
  · obtain ⟨z, rfl, k⟩ := h
    refine ⟨_, (pss_cons (ps_if (pt_cmpR op_eq (pv 0) pe_str (nomark _)) (pss_one (ps_ret (pe_tup pa_nil))) pss_nil) (pss_one (ps_ret (pe_tup (pa_cons (pe_tup (pa_cons pe_str (pa_cons (pv 0) pa_nil))) pa_nil))))), ?_⟩
    refine ⟨_, rfl, rfl, _, rfl, ?_⟩
    refine ite2 (fun e => ?_) (fun e => ?_)
    · have ez : tl z = [] := by
        rw [V.str.inj (of_decide_eq_true e)]
        rfl
      refine ⟨by show 0 ≤ sizeLine; decide, fun p hp => k _ _ (same_upd hp) ?_⟩
      unfold stf
      rw [if_pos ez]
      exact ⟨p, [], rfl, SqT.of upd_same, .nil⟩
    · have nz : tl z ≠ [] := fun q => e (decide_eq_true (congrArg V.str (tl_inj q)))
      refine ⟨.str z, rfl, by show 2 ≤ sizeLine; decide, fun p hp => ⟨by show 1 ≤ sizeLine; decide, fun p2 hp2 => k _ _ ((same_upd hp).trans (same_upd hp2)) ?_⟩⟩
      unfold stf
      rw [if_neg nz]
      exact ⟨p2, [V.ref p], rfl, SqT.of upd_same, .cons ⟨p, rfl, SqT.of (same_upd hp2 _ _ upd_same)⟩ .nil⟩
theorem scCf : FnScope ["products", "places", "table", "steps", "letter", "stay", "branches"] ["products", "places", "table"] (defScope sCommonFrom) := ⟨rfl, rfl, rfl, by decide +kernel, rfl, by decide +kernel, by decide +kernel⟩
theorem ok_cf (D : DfCf K mg) : ∀ n, n ≤ 23 → FnOk P w K mg base CX0 n D.f.f D.f.fd ["products", "places", "table"] (spCf n P w K)
  | 0, _ => ⟨fun vs H Q E ⟨_, _, _, _, _, _, _, _, h, _⟩ => absurd h (Nat.not_lt_zero _), fun A outer s H args us vs Q E _ _ _ _ ⟨_, _, _, _, _, _, _, _, h, _⟩ => absurd h (Nat.not_lt_zero _)⟩
  | n + 1, hn => by
    have Gf : FnOk P w K mg base CX0 n D.f.f D.f.fd ["products", "places", "table"] (spCf n P w K) := ok_cf D n (by omega)
    have Gl : FnOk P w K mg base CX0 5 D.pl.f D.pl.fd ["products", "places"] (spPbl K) := ok_pbl D.pl D.lo D.sw D.P
    have Gb : FnOk P w K mg base CX0 3 D.bo.f D.bo.fd ["letter", "stay", "rests"] (spBo P w K) := ok_bo D.bo ⟨D.fr, D.P.s, D.P.ma⟩
    have Gj : FnOk P w K mg base CX0 6 D.jb.f D.jb.fd ["products", "steps", "branches"] (spJb P w K) := ok_jb D.jb D.lb D.P D.mL
    have Gs : FnOk P w K mg base CX0 1 D.st.f D.st.fd ["letters"] (spStf K) := ok_stf D.st
    refine D.f.F.ok scCf (fun vs H Q E h => ?_) (fun cdv A outer s H vs Q E hr h => ?_)
    · obtain ⟨l, t, T, z, ovs, os, qs, rfl, _⟩ := h
      rfl
    · obtain ⟨l, t, T, z, ovs, os, qs, rfl, ln, hl, iL, ht, su, al, ok, ne, ol, tq, o2, few, tab, k⟩ := h
      have hrn : Room n _ := hr
      have hr6 : Room 6 _ := hr.mono (by omega)
      have hr5 : Room 5 _ := hr.mono (by omega)
      have hr3 : Room 3 _ := hr.mono (by omega)
      have hr1 : Room 1 _ := hr.mono (by omega)
      have hu1 : (A.deeper (envOfC "common_from" (defScope sCommonFrom) s.heap.objs.size D.f.f cdv)).units + 1 < cLine := by have := hr.units; omega
      have zl := sizeLine_eq
      obtain ⟨tk, hT, tkl, te⟩ := id tab
      have oks : ∀ {G : Hp} {tk : List Ent}, (∀ e ∈ tk, ∃ qs a rvs R, TabE K G z os e qs a rvs R) → KOks K G tk := fun h e he => by
        obtain ⟨qs', a, rvs, R, E⟩ := h e he
        exact ⟨E.nk, by rw [E.key]; exact depth_num _⟩
      -- the end
      have fin : ∀ (G : Hp) (tk : List Ent), G T = some (DO P w T tk) → (tk.map (·.1)).Nodup → (∀ e ∈ tk, ∃ qs a rvs R, TabE K G z os e qs a rvs R) → (∀ b o, b ≠ T → H b = some o → G b = some o) → SqT K G t ((plc os qs).map V.int) → (valN tk (numKey (plc os qs))).isSome = true →
          ∃ (d b : Addr) (kvs : List Ent) (k : NestedKey) (v : V), V.ref T = .ref d ∧ V.ref t = .ref b ∧ ND.At (cxOf CX0 P w K mg base ["products", "places", "table", "steps", "letter", "stay", "branches"] "common_from" (defScope sCommonFrom) D.f.f cdv A outer s H E).nox G d b kvs k ∧ valN kvs k = some v ∧ Q v G := fun G tk gT tl gE kp ht hv => by
        obtain ⟨v, ev⟩ := Option.isSome_iff_exists.mp hv
        obtain ⟨j, e, hj, ek, rfl⟩ := valN_some ev
        obtain ⟨qs', a, rvs, R, E⟩ := gE e (List.mem_of_getElem? hj)
        have : qs' = qs := plc_inj E.su su (numKey_inj (E.key.symm.trans ek))
        subst this
        refine ⟨T, t, tk, _, e.2.2, rfl, rfl, ⟨.inl gT, oks gE, tup_nk ht, depth_num _⟩, ev, ?_⟩
        rw [E.val]
        exact k G a rvs R kp ⟨tk, gT, tl, gE⟩ E.lst E.isl E.cf
      have put : ∀ (G : Hp) (a : Addr) (rvs : List V) (R : List (List Fc)), Tab P w K G z os T → G a = some (.lst rvs) → IsL K G rvs R → CfOk z qs R → (∀ b o, b ≠ T → H b = some o → G b = some o) → SqT K G t ((plc os qs).map V.int) →
          ∃ tkG, G T = some (DO P w T tkG) ∧ KOks K G tkG ∧ tkG.length < sizeLine ∧ ((putN tkG (numKey (plc os qs)) t (.ref a)).map (·.1)).Nodup ∧ (∀ e ∈ putN tkG (numKey (plc os qs)) t (.ref a), ∃ qs2 a' rvs R, TabE K (upd G T (DO P w T (putN tkG (numKey (plc os qs)) t (.ref a)))) z os e qs2 a' rvs R) ∧ (∀ b o, b ≠ T → H b = some o → (upd G T (DO P w T (putN tkG (numKey (plc os qs)) t (.ref a)))) b = some o) ∧ SqT K (upd G T (DO P w T (putN tkG (numKey (plc os qs)) t (.ref a)))) t ((plc os qs).map V.int) := fun G a rvs R tabG ha isl cf kp htG => by
        obtain ⟨tkG, gT, nd, te⟩ := tabG
        have m : ∀ b xs, SqT K G b xs → SqT K (upd G T (DO P w T (putN tkG (numKey (plc os qs)) t (.ref a)))) b xs := upd_do gT
        have len : tkG.length ≤ (allP os).length := by
          have := nodup_len (tkG.map (·.1)) ((allP os).map numKey) nd fun x hx => by
            obtain ⟨e, he, rfl⟩ := List.mem_map.mp hx
            obtain ⟨qs', a', rvs', R', E⟩ := te e he
            rw [E.key]
            exact List.mem_map.mpr ⟨_, allP_has E.su, rfl⟩
          rw [List.length_map, List.length_map] at this
          exact this
        refine ⟨tkG, gT, oks te, by omega, nodup_putN nd _ _ _, fun e he => ?_, fun b o h1 e => (upd_ne h1).trans (kp b o h1 e), m _ _ htG⟩
        have la : ∀ {x : Addr} {xs : List V}, G x = some (.lst xs) → (upd G T (DO P w T (putN tkG (numKey (plc os qs)) t (.ref a)))) x = some (.lst xs) := fun h => (upd_ne fun q => by rw [q, gT] at h; cases h).trans h
        rcases mem_putN he with h | ⟨h1, h2, h3⟩
        · obtain ⟨qs', a', rvs', R', E⟩ := te e h
          exact ⟨qs', a', rvs', R', E.su, E.key, ND.NK.mono m _ _ E.nk, E.val, la E.lst, E.isl.mono m, E.cf⟩
        · refine ⟨qs, a, rvs, R, su, h1, ?_, h2, la ha, isl.mono m, cf⟩
          rcases h3 with h3 | ⟨e0, he0, h4, h5⟩
          · rw [h1, h3]
            exact ND.NK.mono m _ _ (tup_nk htG)
          · obtain ⟨qs', a', rvs', R', E⟩ := te e0 he0
            have hk := ND.NK.mono m _ _ E.nk
            rw [h4, h5] at hk
            rw [h1]
            exact hk
      refine ⟨_, PSs.nox (pss_cons (ps_if (pt_cmpR (ND.op_notInN (u9b hr)) (pv 1) (pv 2) rfl) (pss_cons (ps_set (i := 3) scCf.nd rfl (.inr rfl) (pe_call Gl hr5 (by rfl) D.pl.g D.pl.F.kp D.pl.b .nil pass0 (pa_cons (pv 0) (pa_cons (pv 1) pa_nil)))) (pss_cons (ps_set (i := 5) scCf.nd rfl (.inl rfl) (pe_join pe_str (pe_lock (pe_lc (own := [("letter", 4)]) (g := gName 4) rfl scCf.nd (pi_keys (pv 3)) (blkOk_by (N := ["products", "places", "table", "steps", "letter", "stay", "branches"]) (sc := defScope sCommonFrom) (by decide +kernel)) (fun _ _ _ _ _ => pg_name (i := 4) scCf.nd rfl (Or.inl rfl)) (fun _ _ _ _ _ => (pts_one (pt_cmpR (r := rEqD K) (by exact op_eqD hr.units) (pe_dget hu1 (pv 3) (pv 4) (fun _ _ => rfl)) (pv 1) (nomark _)))) (fun _ _ _ _ _ => (pv 4)))))) (pss_cons (ps_set (i := 6) scCf.nd rfl (.inl rfl) pe_dnewK) (pss_cons (ps_lock (ps_for PassesOwn.never rfl (pi_keys (pv 3)) (pg_name (i := 4) scCf.nd rfl (.inl rfl)) (pss_one (ps_if (pt_cmpR op_notIn_sign (pv 4) (pv 5) rfl) (pss_one (ps_dput hu1 (pv 6) (pv 4) (pe_call Gb hr3 (by rfl) D.bo.g D.bo.F.kp D.bo.b .nil pass0 (pa_cons (pv 4) (pa_cons (pv 5) (pa_cons (pe_call Gf hrn (by rfl) D.f.g D.f.F.kp D.f.b .nil pass0 (pa_cons (pv 0) (pa_cons (pe_dget hu1 (pv 3) (pv 4) (fun _ _ => rfl)) (pa_cons (pv 2) pa_nil)))) pa_nil)))) rfl)) pss_nil)))) (pss_one (ps_if (pt_truth (pv 6) (by intro _; rfl)) (pss_one (ND.ps_dputN (u9b hr) (pv 2) (pv 1) (pe_call Gj hr6 (by rfl) D.jb.g D.jb.F.kp D.jb.b .nil pass0 (pa_cons (pv 0) (pa_cons (pv 3) (pa_cons (pv 6) pa_nil)))) rfl)) (pss_one (ND.ps_dputN (u9b hr) (pv 2) (pv 1) (pe_lst (pa_cons (pe_call Gs hr1 (by rfl) D.st.g D.st.F.kp D.st.b .nil pass0 (pa_cons (pv 5) pa_nil)) pa_nil)) rfl)))))))) pss_nil) (pss_one (ps_ret (ND.pe_dgetN (u9b hr) (pv 2) (pv 1) (fun _ _ => rfl))))), ?_⟩
      refine ⟨.ref t, rfl, .ref T, rfl, T, t, tk, numKey (plc os qs), rfl, rfl, ⟨.inl hT, oks te, tup_nk ht, depth_num _⟩, _, rfl, ite2 (fun e => ?_) (fun e => ?_)⟩
      · have new : valN tk (numKey (plc os qs)) = none := by
          cases q : valN tk (numKey (plc os qs)) with
          | none => rfl
          | some v => rw [q] at e; cases e
        refine ⟨.ref l, rfl, .ref t, rfl, l, t, z, ovs, os, qs, rfl, hl, iL, ht, su, al, ok, ne, ol, fun H1 sdd skv cs s1 nsd hsd iR L => ?_⟩
        refine ⟨⟨_, rfl⟩, sdd, .dK skv, hsd, trivial, fun od => ?_⟩
        have l1 : ∀ b xs, SqT K H1 b xs → SqT K (upd H1 sdd (.frz od (.dK skv))) b xs := fun b xs h => lock_tup hsd (fun _ z => by cases z) (fun _ _ z => by cases z) b xs h
        have rl := iR.len
        have iRL := iR.mono l1
        have htL := l1 _ _ (same_tup s1 _ _ ht)
        have snd : ((steps cs qs).map (·.1)).Nodup := by
          have : ((stepsO cs qs).map (·.1)).Nodup := by
            unfold stepsO
            rw [List.map_map]
            show (cs.map fun c => c).Nodup
            rw [List.map_id']
            exact L.pw.imp fun h => Nat.ne_of_lt h
          exact this.sublist (List.Sublist.map _ List.filter_sublist)
        have csl : cs.length ≤ 3 := Nat.le_trans (asc_sub _ _ L.pw al.1 L.sub).length_le al.2.2.1
        have rowl : (steps cs qs).length ≤ 3 := by
          unfold steps
          refine Nat.le_trans (List.length_filter_le _ _) ?_
          unfold stepsO
          rw [List.length_map]
          exact csl
        refine ⟨.ref sdd, rfl, sdd, od, rfl, .inl ⟨skv, upd_same, fun L1 hL1 => ?_⟩⟩
        refine lc_it walk_keys (fun i H' => H' L1 = some (.lst (((stayR qs ((steps cs qs).take i)).map one).map V.str)) ∧ Same (upd H1 sdd (.frz od (.dK skv))) H') ⟨upd_same, same_upd hL1⟩ (fun _ _ _ ⟨_, sm⟩ => sm _ _ upd_same) ?_ ?_
        · rintro i x G G' hi ⟨gL, sm⟩ ⟨rfl, ky, v1, hk, rfl⟩
          obtain ⟨c, o, hrow, rfl, po⟩ := (iRL.mono (same_tup sm)).get i _ _ hk
          obtain ⟨cc, st, rfl, hst⟩ := steps_row (List.mem_of_getElem? hrow)
          obtain ⟨v2, hv2, po2⟩ := (iRL.mono (same_tup sm)).at snd (List.mem_of_getElem? hrow)
          obtain ⟨a2, rfl, ha2⟩ := id po2
          have dg : DGet G' sdd (.str (one c)) (some (.ref a2)) := .inl ⟨skv, Sum.inr (one c), .inr ⟨od, sm _ _ upd_same⟩, rfl, hv2.symm⟩
          have sn := stayR_snoc qs (steps cs qs) hrow
          have accl : (((stayR qs ((steps cs qs).take i)).map one).map V.str).length < sizeLine := by
            rw [List.length_map, List.length_map]
            unfold stayR
            rw [List.length_map]
            refine Nat.lt_of_le_of_lt (List.length_filter_le _ _) ?_
            rw [List.length_take]
            omega
          refine ⟨rfl, .ref sdd, rfl, .str (one c), rfl, sdd, _, rfl, dg, .ref t, rfl, _, _, tup_dp ha2, tup_dp (same_tup sm _ _ htL), num_shaped _, num_shaped _, _, rfl, ?_⟩
          rw [num_eqv]
          refine ite2 (fun e => ?_) (fun e => ?_)
          · have eq : st = qs := plc_inj (su.pbh hst) su (of_decide_eq_true e)
            refine ⟨_, rfl, _, gL, accl, ?_, fun b o e => (upd_ne (ne_of_none e hL1)).trans (sm _ _ e)⟩
            rw [upd_same, sn, if_pos (by rw [eq]), List.map_append, List.map_append]
            rfl
          · have eq : ¬ some st = some qs := fun q => e (by rw [Option.some.inj q]; exact decide_eq_true rfl)
            refine ⟨?_, sm⟩
            rw [sn, if_neg eq, List.append_nil]
            exact gL
        rintro G ⟨gL, sm⟩
        rw [rl, List.take_length, stayR_all] at gL
        refine ⟨sm _ _ upd_same, ?_⟩
        have gL1 : L1 ≠ sdd := fun z => by rw [z, sm _ _ upd_same] at gL; cases gL
        have ej : tl (Txt.join "" ((stayL cs qs).map one)) = stayL cs qs := by rw [tl_cat, flat_ones]
        have sll : (stayL cs qs).length ≤ 3 := by
          unfold stayL
          exact Nat.le_trans (List.length_filter_le _ _) csl
        refine ⟨"", L1, (stayL cs qs).map one, rfl, rfl, .inl (SqL.of ((upd_ne gL1).trans gL)), ?_, ?_⟩
        · rw [sum_ones _ fun y hy => by obtain ⟨d, _, rfl⟩ := List.mem_map.mp hy; exact ⟨d, rfl⟩, List.length_map]
          show (stayL cs qs).length + (stayL cs qs).length * 0 ≤ 16777216
          omega
        generalize Txt.join "" ((stayL cs qs).map one) = stay at ej
        have hs2 : (upd G sdd (.dK skv)) sdd = some (.dK skv) := upd_same
        have s2 : Same H1 (upd G sdd (.dK skv)) := fun b o e => by
          by_cases z : b = sdd
          · subst z
            rw [upd_same, ← hsd, e]
          · exact (upd_ne z).trans (sm _ _ ((upd_ne z).trans e))
        intro Bd hBd
        have sB := same_upd (o := .dK []) hBd
        refine ⟨sdd, .dK skv, sB _ _ hs2, trivial, fun od2 => ?_⟩
        have nBs : Bd ≠ sdd := fun z => by rw [z, hs2] at hBd; cases hBd
        have nTs : T ≠ sdd := (ne_of_none hT nsd)
        have sH : Same H (upd (upd (upd G sdd (.dK skv)) Bd (.dK [])) sdd (.frz od2 (.dK skv))) := fun b o e => (upd_ne (ne_of_none e nsd)).trans (sB _ _ (s2 _ _ (s1 _ _ e)))
        have nTB : T ≠ Bd := fun q => by
          have := s2 _ _ (s1 _ _ hT)
          rw [q, hBd] at this
          cases this
        have iR0 : IsRo K (upd (upd (upd G sdd (.dK skv)) Bd (.dK [])) sdd (.frz od2 (.dK skv))) os skv (steps cs qs) := iR.mono fun b xs h => lock_tup (sB _ _ hs2) (fun _ z => by cases z) (fun _ _ z => by cases z) b xs (same_tup sB _ _ (same_tup s2 _ _ h))
        refine ⟨.ref sdd, rfl, sdd, od2, rfl, .inl ⟨skv, upd_same, for_it walk_keys (fun i σ H' => ∃ (bkv : List (Key × V)) (bs : List Bx) (y4 : Option V), σ = [some (.ref l), some (.ref t), some (.ref T), some (.ref sdd), y4, some (.str stay), some (.ref Bd)] ∧ H' Bd = some (.dK bkv) ∧ IsBu P w K H' stay bkv bs ∧ (∀ p ∈ bkv, p.2 ≠ .ref T) ∧ bs.map Bx.c = moveR qs ((steps cs qs).take i) ∧ (∀ b ∈ bs, ∃ st R, b = mkB stay b.c st R ∧ pbh qs (ones [b.c]) = some st ∧ CfOk z st R) ∧ Tab P w K H' z os T ∧ H' sdd = some (.frz od2 (.dK skv)) ∧ IsRo K H' os skv (steps cs qs) ∧ (∀ b o, b ≠ T → H b = some o → H' b = some o))
          ⟨[], [], _, rfl, (upd_ne nBs).trans upd_same, .nil, fun p hp => (nomatch hp), rfl, fun b hb => (nomatch hb), tab_same tab sH, upd_same, iR0, fun b o _ e => sH _ _ e⟩ (fun _ _ _ _ ⟨_, _, _, _, _, _, _, _, _, _, h, _⟩ => h) ?_ ?_⟩⟩
        · rintro i x σ M M' hi ⟨bkv, bs, y4, rfl, gB, iB, nT, bc, bok, tabM, gS, iRM, kp⟩ ⟨rfl, ky, v1, hk, rfl⟩
          obtain ⟨c, o, hrow, rfl, po⟩ := iRM.get i _ _ hk
          obtain ⟨cc, st, rfl, hst⟩ := steps_row (List.mem_of_getElem? hrow)
          obtain ⟨v2, hv2, po2⟩ := iRM.at snd (List.mem_of_getElem? hrow)
          obtain ⟨a2, rfl, ha2⟩ := id po2
          have dg : DGet M' sdd (.str (one c)) (some (.ref a2)) := .inl ⟨skv, Sum.inr (one c), .inr ⟨od2, gS⟩, rfl, hv2.symm⟩
          have sn := moveR_snoc qs (steps cs qs) hrow
          have cin : c ∈ tl stay ↔ st = qs := by
            rw [ej]
            unfold stayL
            rw [List.mem_filter, decide_eq_true_iff, hst]
            exact ⟨fun h => Option.some.inj h.2, fun h => ⟨cc, by rw [h]⟩⟩
          refine ⟨.str (one c), rfl, .str stay, rfl, c, stay, rfl, rfl, _, rfl, ite2 (fun e => ?_) (fun e => ?_)⟩
          · have nin : c ∉ tl stay := by
              have e : (!decide (c ∈ tl stay)) = true := e
              simpa using e
            have nst : st ≠ qs := fun q => nin (cin.mpr q)
            obtain ⟨d1, _, d3, d4⟩ := pbh_suf hst
            have down : totL st + 1 ≤ totL qs := by
              rcases Nat.lt_or_ge (totL st) (totL qs) with h | h
              · exact h
              · exact absurd (d4 (by omega)) nst
            have dnt : ∀ {tk : List Ent}, (∀ xs, DO P w T tk ≠ .tup xs) ∧ ∀ o xs, DO P w T tk ≠ .frz o (.tup xs) := ⟨fun _ z => (by cases z), fun _ _ z => (by cases z)⟩
            have dnl : ∀ {tk : List Ent}, (∀ xs, DO P w T tk ≠ .lst xs) ∧ ∀ o xs, DO P w T tk ≠ .frz o (.lst xs) := ⟨fun _ z => (by cases z), fun _ _ z => (by cases z)⟩
            have mM := but_tup (K := K) hT hT dnt dnt fun c o h1 _ e => kp c o h1 e
            obtain ⟨tkM, hTM, _, _⟩ := id tabM
            have ostl := (su.pbh hst).len
            refine ⟨.str (one c), rfl, .str stay, rfl, .ref l, rfl, .ref sdd, rfl, .str (one c), rfl, sdd, _, rfl, dg, .ref T, rfl, l, a2, T, z, ovs, os, st, rfl, by omega, but_lst hT hT dnl dnl (fun c o h1 _ e => kp c o h1 e) hl, iL.mono mM, ha2, su.pbh hst, al, ok, ne, ol, by omega, o2, few, tabM, fun H3 u rvs R kp3 tab3 hu isl cf => ?_⟩
            have m3 := but_tup (K := K) hTM hTM dnt dnt fun c o h1 _ e => kp3 c o h1 e
            have Rl : R.length ≤ 4782969 := by
              refine Nat.le_trans cf.few (Nat.le_trans (Nat.pow_le_pow_right (by decide) (show totL st - (st.length - 1) ≤ 14 by omega)) (by decide))
            refine ⟨c, stay, z, u, rvs, R, rfl, SqL.of hu, isl, by omega, fun r hr => by have := cf.len r hr; omega, by rw [ej]; omega, cf.new nin, fun H4 D4 kvs4 s4 nD hD iB4 => ?_⟩
            obtain ⟨tk3, hT3, _, _⟩ := id tab3
            have gB3 := kp3 _ _ nTB.symm gB
            have gB4 := s4 _ _ gB3
            have nDB : D4 ≠ Bd := fun q => by rw [q, gB3] at nD; cases nD
            have nDT : D4 ≠ T := fun q => by rw [q, hT3] at nD; cases nD
            have cnot : ∀ b ∈ bs, b.c ≠ c := fun b hb q => by
              have h1 : c ∈ moveR qs ((steps cs qs).take i) := by rw [← bc, ← q]; exact List.mem_map.mpr ⟨b, hb, rfl⟩
              unfold moveR at h1
              obtain ⟨row, hr', e'⟩ := List.mem_map.mp h1
              have hr' := (List.mem_filter.mp hr').1
              obtain ⟨j, hj⟩ := List.getElem?_of_mem hr'
              rw [List.getElem?_take] at hj
              split at hj
              · next lt =>
                obtain ⟨li, ei⟩ := List.getElem?_eq_some_iff.mp hrow
                obtain ⟨lj, ej'⟩ := List.getElem?_eq_some_iff.mp hj
                have := List.pairwise_iff_getElem.mp snd j i (by rw [List.length_map]; exact lj) (by rw [List.length_map]; exact li) lt
                rw [List.getElem_map, List.getElem_map, ei, ej', e'] at this
                exact this rfl
              · cases hj
            have iB3 := iB.mono2 m3 fun D kvs ⟨k, hk⟩ hd => kp3 D _ (fun q => nT _ hk (by rw [q])) hd
            have iB44 := iB3.mono2 (same_tup s4) fun D kvs _ hd => s4 _ _ hd
            have fresh := iB44.fresh cnot
            have bkl := iB.len
            have bsl : bs.length ≤ 3 := by
              have : (bs.map Bx.c).length ≤ (steps cs qs).length := by
                rw [bc]
                unfold moveR
                rw [List.length_map]
                refine Nat.le_trans (List.length_filter_le _ _) ?_
                rw [List.length_take]
                exact Nat.min_le_right _ _
              rw [List.length_map] at this
              omega
            have mB : ∀ b xs, SqT K H4 b xs → SqT K (upd H4 Bd (.dK (putK bkv (Sum.inr (one c)) (.ref D4)))) b xs := upd_tupK gB4
            refine ⟨.ref Bd, rfl, .str (one c), rfl, Bd, _, rfl, .inl ⟨bkv, Sum.inr (one c), gB4, rfl, by omega, rfl⟩, ?_⟩
            refine ⟨bkv ++ [(Sum.inr (one c), .ref D4)], bs ++ [mkB stay c st R], _, rfl, by rw [upd_same, putK_new _ fresh], IsBu.snoc (b := mkB stay c st R) ((upd_ne nDB).trans hD) (iB4.mono mB) rfl (iB44.mono2 mB fun D kvs _ hd => (upd_ne fun q => by rw [q, gB4] at hd; cases hd).trans hd), fun p hp => ?_, ?_, fun b hb => ?_, tab_upd (tab_same tab3 s4) gB4 nTB (fun _ z => by cases z) (fun _ _ z => by cases z) (fun _ z => by cases z), (upd_ne nBs.symm).trans (s4 _ _ (kp3 _ _ nTs.symm gS)), ((iRM.mono m3).mono (same_tup s4)).mono mB, fun b o h1 e => (upd_ne fun q => ?_).trans (s4 _ _ (kp3 _ _ h1 (kp b o h1 e)))⟩
            · rcases List.mem_append.mp hp with q | q
              · exact nT p q
              · rw [List.mem_singleton.mp q]
                exact fun z => nDT (V.ref.inj z)
            · rw [List.map_append, bc, sn, if_neg (fun q => nst (Option.some.inj q))]
              rfl
            · rcases List.mem_append.mp hb with q | q
              · exact bok b q
              · rw [List.mem_singleton.mp q]
                exact ⟨st, R, rfl, hst, cf⟩
            · have := s2 _ _ (s1 _ _ e)
              rw [q, hBd] at this
              cases this
          · have inn : c ∈ tl stay := by
              have e : ¬ (!decide (c ∈ tl stay)) = true := e
              simpa using e
            refine ⟨bkv, bs, _, rfl, gB, iB, nT, ?_, bok, tabM, gS, iRM, kp⟩
            rw [bc, sn, if_pos (by rw [cin.mp inn]), List.append_nil]
        · rintro σ M ⟨bkv, bs, y4, rfl, gB, iB, nT, bc, bok, tabM, gS, iRM, kp⟩
          rw [rl, List.take_length, moveR_all] at bc
          have okq : ∀ q ∈ qs, ∀ f ∈ q, FOk z f := fun q hq f hf => by
            obtain ⟨o, ho, sx⟩ := su.mem q hq
            exact (ok o ho).1 f (sx.subset hf)
          have dnt : ∀ {tk : List Ent}, (∀ xs, DO P w T tk ≠ .tup xs) ∧ ∀ o xs, DO P w T tk ≠ .frz o (.tup xs) := ⟨fun _ z => (by cases z), fun _ _ z => (by cases z)⟩
          have dnl : ∀ {tk : List Ent}, (∀ xs, DO P w T tk ≠ .lst xs) ∧ ∀ o xs, DO P w T tk ≠ .frz o (.lst xs) := ⟨fun _ z => (by cases z), fun _ _ z => (by cases z)⟩
          have ml : ∀ b xs, SqT K M b xs → SqT K (upd M sdd (.dK skv)) b xs := fun b xs h => lock_tup gS (fun _ z => by cases z) (fun _ _ z => by cases z) b xs h
          have kp' : ∀ b o, b ≠ T → H b = some o → (upd M sdd (.dK skv)) b = some o := fun b o h1 e => (upd_ne (ne_of_none e nsd)).trans (kp b o h1 e)
          have tab' : Tab P w K (upd M sdd (.dK skv)) z os T := tab_upd tabM gS nTs (fun _ z => by cases z) (fun _ _ z => by cases z) (fun _ z => by cases z)
          have gB' : (upd M sdd (.dK skv)) Bd = some (.dK bkv) := (upd_ne nBs).trans gB
          have gS' : (upd M sdd (.dK skv)) sdd = some (.dK skv) := upd_same
          have iR' := iRM.mono ml
          have iB' : IsBu P w K (upd M sdd (.dK skv)) stay bkv bs := iB.mono2 ml fun D kvs _ hd => (upd_ne fun q => by rw [q, gS] at hd; cases hd).trans hd
          have mH := but_tup (K := K) hT hT dnt dnt fun c o h1 _ e => kp' c o h1 e
          have bkl := iB.len
          have ht' := mH _ _ ht
          refine ⟨gS, .ref Bd, rfl, !bkv.isEmpty, .inr (.inr ⟨bkv, gB', rfl⟩), ?_⟩
          generalize hMM : upd M sdd (.dK skv) = MM at kp' tab' gB' gS' iR' iB' mH ht' ⊢
          by_cases em : bkv = []
          · subst em
            have be : bs = [] := List.eq_nil_of_length_eq_zero bkl.symm
            subst be
            refine iteF ⟨.str stay, rfl, stay, rfl, fun H5 v s5 isv => ⟨by show 1 ≤ sizeLine; decide, fun a ha => ?_⟩⟩
            have sa := same_upd (o := .lst [v]) ha
            have s5a := s5.trans sa
            obtain ⟨tkG, gT, ko, kl, nd2, te2, kp2, ht2⟩ := put _ a [v] [stf stay] (tab_same tab' s5a) upd_same (.cons (isv.mono (same_tup sa)) .nil) (lone_of al okq L ej bc.symm) (fun b o h1 e => s5a _ _ (kp' b o h1 e)) (same_tup s5a _ _ ht')
            exact ⟨.ref T, rfl, .ref t, rfl, T, t, tkG, _, rfl, rfl, gT, ko, tup_nk (same_tup s5a _ _ ht'), depth_num _, kl, .ref T, rfl, .ref t, rfl, fin _ _ upd_same nd2 te2 kp2 ht2 (val_putN _ _ _ _)⟩
          · have bne : bs ≠ [] := fun q => em (List.eq_nil_of_length_eq_zero (by rw [bkl, q]; rfl))
            have tt : (!bkv.isEmpty) = true := by cases bkv with | nil => exact absurd rfl em | cons _ _ => rfl
            rw [tt]
            have bcs : ∀ b ∈ bs, b.c ∈ cs := fun b hb => by
              have : b.c ∈ moveL cs qs := by rw [← bc]; exact List.mem_map.mpr ⟨b, hb, rfl⟩
              exact (List.mem_filter.mp this).1
            have bnd : (bs.map Bx.c).Nodup := by
              rw [bc]
              exact (L.pw.sublist List.filter_sublist).imp fun h => Nat.ne_of_lt h
            have bsl : bs.length ≤ 3 := by
              have : (bs.map Bx.c).length ≤ cs.length := by
                rw [bc]
                exact List.length_filter_le _ _
              rw [List.length_map] at this
              omega
            have bR : ∀ b ∈ bs, pbh qs (ones [b.c]) = some b.st ∧ CfOk z b.st b.R ∧ b.es.length = b.R.length := fun b hb => by
              obtain ⟨st, R, e, h1, h2⟩ := bok b hb
              rw [e]
              exact ⟨h1, h2, by show (R.map _).length = _; rw [List.length_map]; rfl⟩
            have each : ∀ b ∈ bs, b.es.length ≤ 4782969 := fun b hb => by
              obtain ⟨h1, cf, h3⟩ := bR b hb
              rw [h3]
              obtain ⟨d1, _, d3, d4⟩ := pbh_suf h1
              have ostl := (su.pbh h1).len
              have nst : b.st ≠ qs := fun q => by
                have : b.c ∈ moveL cs qs := by rw [← bc]; exact List.mem_map.mpr ⟨b, hb, rfl⟩
                unfold moveL at this
                have := (List.mem_filter.mp this).2
                rw [h1, q] at this
                simp at this
              have down : totL b.st + 1 ≤ totL qs := by
                rcases Nat.lt_or_ge (totL b.st) (totL qs) with h | h
                · exact h
                · exact absurd (d4 (by omega)) nst
              exact Nat.le_trans cf.few (Nat.le_trans (Nat.pow_le_pow_right (by decide) (show totL b.st - (b.st.length - 1) ≤ 14 by omega)) (by decide))
            have sumle : (bs.map fun b => b.es.length).sum ≤ 15000000 := by
              have := sum_le (fun b : Bx => b.es.length) 4782969 bs each
              have h2 : bs.length * 4782969 ≤ 3 * 4782969 := Nat.mul_le_mul_right _ bsl
              omega
            refine iteT ⟨.ref l, rfl, .ref sdd, rfl, .ref Bd, rfl, l, sdd, Bd, ovs, os, qs, skv, cs, bkv, bs, stay, rfl, but_lst hT hT dnl dnl (fun c o h1 _ e => kp' c o h1 e) hl, iL.mono mH, gS', iR', L.pw.imp fun h => Nat.ne_of_lt h, gB', nBs.symm, iB', bnd, fun b hb => ⟨bcs b hb, (bR b hb).1, ?_, fun r hr => ⟨fun f hf => fok_low al (((bR b hb).2.1.rz r hr).ok f hf), ?_⟩⟩, su, fun o ho f hf => fok_low al ((ok o ho).1 f hf), ol, sumle, fun H5 u rvs found s5 nu hu isl nd mem fw => ?_⟩
            · have := al.2.2.2 _ (L.sub _ (bcs b hb))
              omega
            · have := (bR b hb).2.1.len r hr
              have := (pbh_suf (bR b hb).1).2.2.1
              omega
            have cf := (joins_of al L ej bc bok nd mem fw).cf al okq bne
            obtain ⟨tkG, gT, ko, kl, nd2, te2, kp2, ht2⟩ := put _ u rvs found (tab_same tab' s5) hu isl cf (fun b o h1 e => s5 _ _ (kp' b o h1 e)) (same_tup s5 _ _ ht')
            exact ⟨.ref T, rfl, .ref t, rfl, T, t, tkG, _, rfl, rfl, gT, ko, tup_nk (same_tup s5 _ _ ht'), depth_num _, kl, .ref T, rfl, .ref t, rfl, fin _ _ upd_same nd2 te2 kp2 ht2 (val_putN _ _ _ _)⟩
      · have old : (valN tk (numKey (plc os qs))).isSome = true := by
          cases q : valN tk (numKey (plc os qs)) with
          | none => rw [q] at e; exact absurd rfl e
          | some v => rfl
        exact ⟨.ref T, rfl, .ref t, rfl, fin H tk hT tkl te (fun _ _ _ e => e) ht old⟩
end
end DW
/-! common_products -/
namespace DW
open PySem PySem.Spec PyProof.Rows L2 TL
set_option autoImplicit false
open ND (Ent DO KOks NK NKs valN putN setN keyVs)
theorem plc_self : ∀ os : List (List Fc), plc os os = os.map fun _ => (0 : Int)
  | [] => rfl
  | o :: os => by
    show ((o.length - o.length : Nat) : Int) :: plc os os = _
    rw [plc_self os, Nat.sub_self]
    rfl
theorem suf_self : ∀ os : List (List Fc), Suf os os
  | [] => trivial
  | o :: os => ⟨List.suffix_refl o, suf_self os⟩
def spCp (K : PySem.W.Frag) : Sp := fun vs H Q _ => ∃ (l : Addr) (z : Str) (ovs : List V) (os : List (List Fc)), vs = [.ref l] ∧ SqL K H l ovs ∧ IsL K H ovs os ∧ Alph z ∧ (∀ o ∈ os, (∀ f ∈ o, FOk z f) ∧ o.length ≤ 20) ∧ os.length ≤ 1000 ∧ totL os ≤ 16 ∧ 2 ≤ os.length ∧ (allP os).length ≤ 15000000 ∧
  ∀ H' u rvs R, Same H H' → H' u = some (.lst rvs) → IsL K H' rvs R → CfOk z os R → Q (.ref u) H'
section
variable {P : Program} {w : World} {K : PySem.W.Frag} {mg : Str → Option Value} {base : Heap}
theorem scCp : FnScope ["products", "product"] ["products"] (defScope sCommonProducts) := ⟨rfl, rfl, rfl, by decide +kernel, rfl, by decide +kernel, by decide +kernel⟩
theorem ok_cp (Dp : Df K mg "common_products" sCommonProducts ["products"]) (D : DfCf K mg) : FnOk P w K mg base CX0 24 Dp.f Dp.fd ["products"] (spCp K) := by
  have Gf : FnOk P w K mg base CX0 23 D.f.f D.f.fd ["products", "places", "table"] (spCf 23 P w K) := ok_cf D 23 (Nat.le_refl _)
  refine Dp.F.ok scCp (fun vs H Q E h => ?_) (fun cdv A outer s H vs Q E hr h => ?_)
  · obtain ⟨l, z, ovs, os, rfl, _⟩ := h
    rfl
  · obtain ⟨l, z, ovs, os, rfl, hl, iL, al, ok, ol, tq, o2, few, k⟩ := h
    have hrn : Room 23 _ := hr
    have zl := sizeLine_eq
    have ovl := iL.len
    refine ⟨_, PSs.nox (pss_one (ps_ret (pe_call Gf hrn (by rfl) D.f.g D.f.F.kp D.f.b .nil pass0 (pa_cons (pv 0) (pa_cons (pe_callTy call_tuple_of (by rfl) D.P.mt (by decide +kernel) (pa_cons (pe_lc (own := [("product", 1)]) (g := gName 1) rfl scCp.nd (pi_list (pv 0)) (blkOk_by (N := ["products", "product"]) (sc := defScope sCommonProducts) (by decide +kernel)) (fun _ _ _ _ _ => pg_name (i := 1) scCp.nd rfl (Or.inl rfl)) (fun _ _ _ _ _ => pts_nil) (fun _ _ _ _ _ => pe_int)) pa_nil)) (pa_cons ND.pe_dnewN pa_nil)))))), ?_⟩
    refine ⟨.ref l, rfl, .ref l, rfl, l, rfl, ⟨_, hl⟩, fun L hL => ?_⟩
    refine lc_it (walk_list (xs := ovs)) (fun i H' => H' L = some (.lst (((os.take i).map fun _ => (0 : Int)).map V.int)) ∧ Same H H') ⟨upd_same, same_upd hL⟩ (fun _ _ _ ⟨_, sm⟩ => same_lst sm hl) ?_ ?_
    · rintro i x G G' hi ⟨gL, sm⟩ ⟨rfl, hx⟩
      obtain ⟨o, ho, _⟩ := iL.get i x hx
      refine ⟨rfl, yes ⟨_, gL, ?_, ?_, fun b o e => (upd_ne (ne_of_none e hL)).trans (sm _ _ e)⟩⟩
      · rw [List.length_map, List.length_map, List.length_take]
        omega
      · rw [upd_same, List.take_add_one, ho, List.map_append, List.map_append]
        rfl
    rintro G ⟨gL, sm⟩
    rw [ovl, List.take_length, ← plc_self] at gL
    refine ⟨L, _, rfl, .inl ⟨SqL.of gL, fun t ht => ?_⟩⟩
    have st := same_upd (o := .tup ((plc os os).map V.int)) ht
    intro T hT
    have sT := same_upd (o := DO P w T []) hT
    have s3 := (sm.trans st).trans sT
    refine ⟨l, t, T, z, ovs, os, os, rfl, by omega, same_lst s3 hl, iL.mono (same_tup s3), SqT.of (sT _ _ upd_same), suf_self os, al, ok, (fun q => by rw [q] at o2; cases o2), ol, tq, o2, few, ⟨[], upd_same, List.nodup_nil, fun e he => (nomatch he)⟩, fun H' u rvs R kp _ hu isl cf => k H' u rvs R (fun b o e => kp b o (ne_of_none ((sm.trans st) _ _ e) hT) (s3 _ _ e)) hu isl cf⟩
end
end DW
/-! by_written_form, size_of_product -/
namespace DW
open PySem PySem.Spec PyProof.Rows L2 TL
set_option autoImplicit false
theorem isF_inj {K : PySem.W.Frag} {H : Hp} (ti : SK.TInj K H) {v : V} {f g : Fc} (a : IsF K H v f) (b : IsF K H v g) : f = g := by
  obtain ⟨x, rfl, hx⟩ := a
  obtain ⟨y, e, hy⟩ := b
  cases e
  have e := ti _ _ _ hx hy
  injection e with e1 e2
  injection e2 with e2 _
  have k1 := kd_inj (V.str.inj e1)
  have k2 := V.str.inj e2
  obtain ⟨f1, f2⟩ := f
  obtain ⟨g1, g2⟩ := g
  simp only at k1 k2
  rw [k1, k2]
theorem isFs_inj {K : PySem.W.Frag} {H : Hp} (ti : SK.TInj K H) : ∀ {vs : List V} {fs gs : List Fc}, IsFs K H vs fs → IsFs K H vs gs → fs = gs
  | _, _, _, .nil, h => by cases h; rfl
  | _, _, _, .cons a r, h => by
    cases h with
    | cons b q => rw [isF_inj ti a b, isFs_inj ti r q]
theorem isP_inj {K : PySem.W.Frag} {H : Hp} (ti : SK.TInj K H) (v : V) (p q : List Fc) (a : IsP K H v p) (b : IsP K H v q) : p = q := by
  obtain ⟨x, xs, rfl, hx, iF⟩ := a
  obtain ⟨y, ys, e, hy, iG⟩ := b
  cases e
  have e := ti _ _ _ hx hy
  subst e
  exact isFs_inj ti iF iG
section
variable {P : Program} {w : World} {K : PySem.W.Frag} {mg : Str → Option Value} {base : Heap}
structure DfBw (K : PySem.W.Frag) (mg : Str → Option Value) where
  b : Df K mg "by_written_form" sByWrittenForm ["products"]
  p : Df K mg "format_product" sFormatProduct ["product"]
  f : Df K mg "format_factor" sFormatFactor ["factor"]
  ml : mg "len" = none
  me : ∃ t, mg "EMPTY_FORM" = some (.str "-" t)
  ms : mg "sorted" = none
theorem ok_bw (D : DfBw K mg) : FnOk P w K mg base CX0 5 D.b.f D.b.fd ["products"] (spBw K) := by
  have Gp : FnOk P w K mg base CX0 2 D.p.f D.p.fd ["product"] (spFp K) := ok_fp D.p D.f D.ml D.me
  refine D.b.F.ok scBw (fun vs H Q E h => ?_) (fun cdv A outer s H vs Q E hr h => ?_)
  · obtain ⟨a, xs, qs, rfl, _⟩ := h
    rfl
  · obtain ⟨a, xs, qs, rfl, ha, iL, lq, k⟩ := h
    refine ⟨_, pss_one (ps_ret (SK.pe_sortedFn Gp hr D.p.b (by rfl) D.ms (by rfl) D.p.g (pa_cons (pv 0) pa_nil))), ?_⟩
    refine ⟨.ref a, rfl, fun ti => ?_⟩
    obtain ⟨g, hg⟩ := form_of iL (isP_inj ti)
    refine ⟨a, xs, g, rfl, ha, fun x hx H' sm => ?_, fun H2 p sm hn hp => ?_⟩
    · obtain ⟨i, hi⟩ := List.getElem?_of_mem hx
      obtain ⟨q, hq, isq⟩ := iL.get i x hi
      obtain ⟨l1, l2⟩ := lq q (List.mem_of_getElem? hq)
      exact ⟨x, q, rfl, isq.mono (same_tup sm), l1, l2, fun H2 s2 => ⟨by rw [hg i x q hi hq], s2⟩⟩
    · exact k H2 p _ _ sm hn hp ((iL.mono (same_tup sm)).sorted hg) rfl
end
end DW
/-! common_part -/
namespace DW
open PySem PySem.Spec PyProof.Rows L2 TL
set_option autoImplicit false
theorem ps_nox6 {X : Cx} {st : Stmt} {t : TS} (h : PS X.nox st t) : PS X st t := ⟨fun pins s σ H D I hw =>
  wpAny_mono (h.run pins s σ H D (I.wish _) hw) (fun _ _ q => q.unwish) fun _ _ z => False.elim z⟩

theorem allP_len (o : List Fc) (os : List (List Fc)) : (allP (o :: os)).length ≤ (o.length + 1) * (allP os).length := by
  show (List.flatten _).length ≤ _
  rw [List.length_flatten, List.map_map]
  have := sum_le (List.length ∘ fun n : Nat => (allP os).map fun ns => ((n : Nat) : Int) :: ns) (allP os).length (List.range (o.length + 1)) fun n _ => by
    show (List.map _ _).length ≤ _
    rw [List.length_map]
    exact Nat.le_refl _
  rw [List.length_range] at this
  exact this
theorem CfOk.perm {z : Str} {qs R R' : List (List Fc)} (C : CfOk z qs R) (h : R'.Perm R) : CfOk z qs R' := by
  have m : ∀ {r}, r ∈ R' ↔ r ∈ R := fun {r} => h.mem_iff
  exact ⟨fun r hr => C.rz r (m.mp hr), fun u => ⟨fun ⟨r, hr, l⟩ => (C.lang u).mp ⟨r, m.mp hr, l⟩, fun hu => by
    obtain ⟨r, hr, l⟩ := (C.lang u).mpr hu
    exact ⟨r, m.mpr hr, l⟩⟩, fun a ha b hb i => C.anti a (m.mp ha) b (m.mp hb) i, h.nodup_iff.mpr C.nd, fun r hr => C.len r (m.mp hr), by rw [h.length_eq]; exact C.few⟩
def spCpt (K : PySem.W.Frag) (CT : Addr) : Sp := fun vs H Q E => ∃ (x y : V) (z : Str) (p q : List Fc), vs = [x, y] ∧ IsP K H x p ∧ IsP K H y q ∧ Alph z ∧ (∀ f ∈ p, FOk z f) ∧ (∀ f ∈ q, FOk z f) ∧ p.length ≤ 1000 ∧ q.length ≤ 1000 ∧
  (p.length ≤ 8 → q.length ≤ 8 → ∀ H' u rvs R, Same H H' → H u = none → H' u = some (.lst rvs) → IsL K H' rvs R → CfOk z [p, q] R → R.Pairwise (fun a b => tl (pform a) ≤ tl (pform b)) → Q (.ref u) H') ∧
  (8 < p.length ∨ 8 < q.length → ∀ H' d, Same H H' → H' d = none → E (.ref CT) (some d) (upd H' d (.xd [(("limit" : Str), .int 8)])))
structure DfCpt (K : PySem.W.Frag) (mg : Str → Option Value) where
  t : Df K mg "common_part" sCommonPart ["product", "other"]
  c : Df K mg "common_products" sCommonProducts ["products"]
  w : DfBw K mg
  f : DfCf K mg
  B : Bl mg
  ml : ∃ t, mg "COMMON_PART_LIMIT" = some (.int 8 t)
section
variable {P : Program} {w : World} {K : PySem.W.Frag} {mg' : Str → Option Value} {base : Heap}
theorem scCpt : FnScope ["product", "other"] ["product", "other"] (defScope sCommonPart) := ⟨rfl, rfl, rfl, by decide +kernel, rfl, by decide +kernel, by decide +kernel⟩
theorem ok_cpt (D : DfCpt K mg') (M : EX.DfE P K mg' "TooLarge" "limit" EX.MsgOk) : FnOk P w K mg' base (L2.CX P w) 25 D.t.f D.t.fd ["product", "other"] (spCpt K M.C) := by
  have Gp : FnOk P w K mg' base CX0 24 D.c.f D.c.fd ["products"] (spCp K) := ok_cp D.c D.f
  have Gw : FnOk P w K mg' base CX0 5 D.w.b.f D.w.b.fd ["products"] (spBw K) := ok_bw D.w
  have ml : ∃ u, mg' "COMMON_PART_LIMIT" = some u ∧ RelV (.int 8) u := by
    obtain ⟨t, e⟩ := D.ml
    exact ⟨_, e, t, rfl⟩
  refine D.t.F.ok scCpt (fun vs H Q E h => ?_) (fun cdv A outer s H vs Q E hr h => ?_)
  · obtain ⟨x, y, z, p, q, rfl, _⟩ := h
    rfl
  · obtain ⟨x, y, z, p, q, rfl, isp, isq, al, okp, okq, pl, ql, kq, ke⟩ := h
    have hr2 : Room (1 + 1) _ := hr.mono (by decide)
    have hr5 : Room 5 _ := hr.mono (by decide)
    have sl := sizeLine_eq
    obtain ⟨a, xs, rfl, ha, iF⟩ := id isp
    obtain ⟨b, ys, rfl, hb, iG⟩ := id isq
    have xl := iF.len
    have yl := iG.len
    have nl : EX.MsgOk (.int 8) := .inr (.inl ⟨_, rfl, by decide +kernel⟩)
    refine ⟨_, (pss_cons (ps_if (pw_or (pt_cmpR op_gt (pe_callB call_len_seq (by rfl) D.B.len PySem.boot_len (pa_cons (pv 0) pa_nil)) (C8.pe_gc (by rfl) ml) (nomark _)) (pw_or1 (pt_cmpR op_gt (pe_callB call_len_seq (by rfl) D.B.len PySem.boot_len (pa_cons (pv 1) pa_nil)) (C8.pe_gc (by rfl) ml) (nomark _)))).pt (pss_one (ps_raise rfl (takes_of rfl rfl rfl rfl) (EX.pmk_err M.T M.iC M.tI (M.F w base) hr2 M.b (by rfl) M.g (C8.pe_gc (by rfl) ml)))) pss_nil) (pss_one (ps_nox6 (ps_ret (pe_call Gw hr5 (by rfl) D.w.b.g D.w.b.F.kp D.w.b.b .nil pass0 (pa_cons (pe_call Gp hr (by rfl) D.c.g D.c.F.kp D.c.b .nil pass0 (pa_cons (pe_lst (pa_cons (pv 0) (pa_cons (pv 1) pa_nil))) pa_nil)) pa_nil)))))), ?_⟩
    refine ⟨.ref a, rfl, a, xs, rfl, .inr ha, _, _, rfl, rfl, _, rfl, ite2 (fun e => ?_) (fun e => ?_)⟩
    · have e : ((8 : Int) < (xs.length : Int)) := of_decide_eq_true e
      exact ⟨nl, fun d nd => ke (.inl (by omega)) _ d (Same.refl _) nd⟩
    · have e : ¬ ((8 : Int) < (xs.length : Int)) := fun h => e (decide_eq_true h)
      refine ⟨.ref b, rfl, b, ys, rfl, .inr hb, _, _, rfl, rfl, _, rfl, ite2 (fun e2 => ?_) (fun e2 => ?_)⟩
      · have e2 : ((8 : Int) < (ys.length : Int)) := of_decide_eq_true e2
        exact ⟨nl, fun d nd => ke (.inr (by omega)) _ d (Same.refl _) nd⟩
      · have e2 : ¬ ((8 : Int) < (ys.length : Int)) := fun h => e2 (decide_eq_true h)
        refine ⟨.ref a, rfl, .ref b, rfl, by show 2 ≤ sizeLine; decide, fun l hl => ?_⟩
        have s1 := same_upd (o := .lst [V.ref a, V.ref b]) hl
        refine ⟨l, z, [.ref a, .ref b], [p, q], rfl, SqL.of upd_same, .cons (isp.mono (same_tup s1)) (.cons (isq.mono (same_tup s1)) .nil), al, ?_, by show 2 ≤ 1000; decide, ?_, by show 2 ≤ 2; decide, ?_, fun H2 u rvs R s2 hu isl cf => ?_⟩
        · intro o ho
          rcases List.mem_cons.mp ho with rfl | ho
          · exact ⟨okp, by omega⟩
          · rw [List.mem_singleton.mp ho]
            exact ⟨okq, by omega⟩
        · show p.length + (q.length + 0) ≤ 16
          omega
        · have h1 := allP_len p [q]
          have h2 := allP_len q []
          have h3 : (allP []).length = 1 := rfl
          rw [h3] at h2
          have h4 : (p.length + 1) * (allP [q]).length ≤ 9 * 9 := Nat.mul_le_mul (by omega) (by omega)
          omega
        · refine ⟨u, rvs, R, rfl, SqL.of hu, isl, fun r hr => ⟨fun f hf => Nat.le_trans (fok_len al ((cf.rz r hr).ok f hf)) (by decide), ?_⟩, fun H3 u2 rvs2 zs s3 nu hu2 isl2 ez => ?_⟩
          · have h1 := cf.len r hr
            have h2 : totL [p, q] ≤ 16 := by
              show p.length + (q.length + 0) ≤ 16
              omega
            omega
          have s12 := s1.trans s2
          refine kq (by omega) (by omega) H3 u2 rvs2 zs (s12.trans s3) ?_ hu2 isl2 (cf.perm (by rw [ez]; exact List.mergeSort_perm _ _)) ?_
          · cases w0 : H u2 with
            | none => rfl
            | some o => rw [s12 _ _ w0] at nu; cases nu
          · rw [ez]
            refine (List.pairwise_mergeSort (le := fun x y => decide (tl (pform x) ≤ tl (pform y))) (fun a b c h1 h2 => ?_) (fun a b => ?_) R).imp fun h => of_decide_eq_true h
            · exact decide_eq_true (List.le_trans (of_decide_eq_true h1) (of_decide_eq_true h2))
            · rw [Bool.or_eq_true, decide_eq_true_iff, decide_eq_true_iff]
              exact List.le_total _ _
end
end DW
/-! common_part, of products that are not too long -/
namespace DW
open PySem PySem.Spec PyProof.Rows L2 TL
set_option autoImplicit false
def spCpu (K : PySem.W.Frag) : Sp := fun vs H Q _ => ∃ (x y : V) (z : Str) (p q : List Fc), vs = [x, y] ∧ IsP K H x p ∧ IsP K H y q ∧ Alph z ∧ (∀ f ∈ p, FOk z f) ∧ (∀ f ∈ q, FOk z f) ∧ p.length ≤ 8 ∧ q.length ≤ 8 ∧
  (∀ H' u rvs R, Same H H' → H u = none → H' u = some (.lst rvs) → IsL K H' rvs R → CfOk z [p, q] R → R.Pairwise (fun a b => tl (pform a) ≤ tl (pform b)) → Q (.ref u) H')
section
variable {P : Program} {w : World} {K : PySem.W.Frag} {mg' : Str → Option Value} {base : Heap}
theorem ok_cpu (D : DfCpt K mg') : FnOk P w K mg' base CX0 25 D.t.f D.t.fd ["product", "other"] (spCpu K) := by
  have Gp : FnOk P w K mg' base CX0 24 D.c.f D.c.fd ["products"] (spCp K) := ok_cp D.c D.f
  have Gw : FnOk P w K mg' base CX0 5 D.w.b.f D.w.b.fd ["products"] (spBw K) := ok_bw D.w
  have ml : ∃ u, mg' "COMMON_PART_LIMIT" = some u ∧ RelV (.int 8) u := by
    obtain ⟨t, e⟩ := D.ml
    exact ⟨_, e, t, rfl⟩
  refine D.t.F.ok scCpt (fun vs H Q E h => ?_) (fun cdv A outer s H vs Q E hr h => ?_)
  · obtain ⟨x, y, z, p, q, rfl, _⟩ := h
    rfl
  · obtain ⟨x, y, z, p, q, rfl, isp, isq, al, okp, okq, pl, ql, kq⟩ := h
    have hr5 : Room 5 _ := hr.mono (by decide)
    have sl := sizeLine_eq
    obtain ⟨a, xs, rfl, ha, iF⟩ := id isp
    obtain ⟨b, ys, rfl, hb, iG⟩ := id isq
    have xl := iF.len
    have yl := iG.len
    refine ⟨_, (pss_cons (ps_if (pw_or (pt_cmpR op_gt (pe_callB call_len_seq (by rfl) D.B.len PySem.boot_len (pa_cons (pv 0) pa_nil)) (C8.pe_gc (by rfl) ml) (nomark _)) (pw_or1 (pt_cmpR op_gt (pe_callB call_len_seq (by rfl) D.B.len PySem.boot_len (pa_cons (pv 1) pa_nil)) (C8.pe_gc (by rfl) ml) (nomark _)))).pt (pss_one ps_never) pss_nil) (pss_one (ps_ret (pe_call Gw hr5 (by rfl) D.w.b.g D.w.b.F.kp D.w.b.b .nil pass0 (pa_cons (pe_call Gp hr (by rfl) D.c.g D.c.F.kp D.c.b .nil pass0 (pa_cons (pe_lst (pa_cons (pv 0) (pa_cons (pv 1) pa_nil))) pa_nil)) pa_nil))))), ?_⟩
    refine ⟨.ref a, rfl, a, xs, rfl, .inr ha, _, _, rfl, rfl, _, rfl, ite2 (fun e => ?_) (fun e => ?_)⟩
    · have e : ((8 : Int) < (xs.length : Int)) := of_decide_eq_true e
      omega
    · have e : ¬ ((8 : Int) < (xs.length : Int)) := fun h => e (decide_eq_true h)
      refine ⟨.ref b, rfl, b, ys, rfl, .inr hb, _, _, rfl, rfl, _, rfl, ite2 (fun e2 => ?_) (fun e2 => ?_)⟩
      · have e2 : ((8 : Int) < (ys.length : Int)) := of_decide_eq_true e2
        omega
      · have e2 : ¬ ((8 : Int) < (ys.length : Int)) := fun h => e2 (decide_eq_true h)
        refine ⟨.ref a, rfl, .ref b, rfl, by show 2 ≤ sizeLine; decide, fun l hl => ?_⟩
        have s1 := same_upd (o := .lst [V.ref a, V.ref b]) hl
        refine ⟨l, z, [.ref a, .ref b], [p, q], rfl, SqL.of upd_same, .cons (isp.mono (same_tup s1)) (.cons (isq.mono (same_tup s1)) .nil), al, ?_, by show 2 ≤ 1000; decide, ?_, by show 2 ≤ 2; decide, ?_, fun H2 u rvs R s2 hu isl cf => ?_⟩
        · intro o ho
          rcases List.mem_cons.mp ho with rfl | ho
          · exact ⟨okp, by omega⟩
          · rw [List.mem_singleton.mp ho]
            exact ⟨okq, by omega⟩
        · show p.length + (q.length + 0) ≤ 16
          omega
        · have h1 := allP_len p [q]
          have h2 := allP_len q []
          have h3 : (allP []).length = 1 := rfl
          rw [h3] at h2
          have h4 : (p.length + 1) * (allP [q]).length ≤ 9 * 9 := Nat.mul_le_mul (by omega) (by omega)
          omega
        · refine ⟨u, rvs, R, rfl, SqL.of hu, isl, fun r hr => ⟨fun f hf => Nat.le_trans (fok_len al ((cf.rz r hr).ok f hf)) (by decide), ?_⟩, fun H3 u2 rvs2 zs s3 nu hu2 isl2 ez => ?_⟩
          · have h1 := cf.len r hr
            have h2 : totL [p, q] ≤ 16 := by
              show p.length + (q.length + 0) ≤ 16
              omega
            omega
          have s12 := s1.trans s2
          refine kq H3 u2 rvs2 zs (s12.trans s3) ?_ hu2 isl2 (cf.perm (by rw [ez]; exact List.mergeSort_perm _ _)) ?_
          · cases w0 : H u2 with
            | none => rfl
            | some o => rw [s12 _ _ w0] at nu; cases nu
          · rw [ez]
            refine (List.pairwise_mergeSort (le := fun x y => decide (tl (pform x) ≤ tl (pform y))) (fun a b c h1 h2 => ?_) (fun a b => ?_) R).imp fun h => of_decide_eq_true h
            · exact decide_eq_true (List.le_trans (of_decide_eq_true h1) (of_decide_eq_true h2))
            · rw [Bool.or_eq_true, decide_eq_true_iff, decide_eq_true_iff]
              exact List.le_total _ _
end
end DW
/-! lists of products as data -/
namespace DW
open PySem PySem.Spec PyProof.Rows L2 TL
set_option autoImplicit false
section
variable {K : PySem.W.Frag}
theorem IsL.dp {H : Hp} : ∀ {vs : List V} {fs : List (List Fc)}, IsL K H vs fs → DpAll K H vs (fs.map pD)
  | _, _, .nil => .nil
  | _, _, .cons h r => .cons h.dp r.dp
theorem ps_eqv : ∀ fs gs : List (List Fc), PyData.eqvAll (fs.map pD) (gs.map pD) = decide (fs = gs)
  | [], [] => by simp [PyData.eqvAll]
  | [], g :: gs => by simp [PyData.eqvAll]
  | f :: fs, [] => by simp [PyData.eqvAll]
  | f :: fs, g :: gs => by
    simp only [List.map_cons, PyData.eqvAll, pD_eqv, ps_eqv fs gs]
    rw [Bool.eq_iff_iff]
    simp
theorem pl_eqv (fs gs : List (List Fc)) : PyData.eqv (.list (fs.map pD)) (.list (gs.map pD)) = decide (fs = gs) := by
  unfold PyData.eqv
  exact ps_eqv fs gs
theorem upd_lst {H : Hp} {l : Addr} {vs : List V} {o : HO} (hl : H l = some (.lst vs)) (b : Addr) (xs : List V) (h : SqT K H b xs) : SqT K (upd H l o) b xs := by
  rcases h with (h | ⟨v, h⟩) | h
  · exact .inl (.inl ((upd_ne (ne_of h hl (by intro z; cases z))).trans h))
  · exact .inl (.inr ⟨v, (upd_ne (ne_of h hl (by intro z; cases z))).trans h⟩)
  · exact .inr h
theorem cut_first (xs : List V) (n : Nat) : cutV xs none (some (n : Int)) = xs.take n := by
  unfold cutV
  rw [HT.sIx_none, HT.sIx_nat, List.drop_zero, Nat.sub_zero]
  by_cases c : n ≤ xs.length
  · rw [Nat.min_eq_left c]
  · rw [Nat.min_eq_right (by omega), List.take_length, List.take_of_length_le (by omega)]
end
theorem IsFs.rev {K : PySem.W.Frag} {H : Hp} {vs : List V} {fs : List Fc} (h : IsFs K H vs fs) : IsFs K H vs.reverse fs.reverse := by
  induction h with
  | nil => exact .nil
  | cons a r ih =>
    rw [List.reverse_cons, List.reverse_cons]
    exact ih.snoc a
end DW
/-! written forms tell products apart; a common part has one sorted list -/
namespace DW
open PySem PySem.Spec PyProof.Rows L2 TL
set_option autoImplicit false
/-! ### written forms -/
theorem fform_tl (f : Fc) : tl (fform f) = if f.1 = true then 123 :: (tl f.2 ++ [125, 42]) else tl f.2 ++ [63] := by
  unfold fform
  split
  · rw [tl_app2, tl_app2]
    have e1 : tl "{" = [123] := by decide +kernel
    have e2 : tl "}*" = [125, 42] := by decide +kernel
    rw [e1, e2]
    simp
  · rw [tl_app2]
    have e2 : tl "?" = [63] := by decide +kernel
    rw [e2]
theorem app_split : ∀ {a b : List Nat} {x y : List Nat} {c d : Nat}, (∀ k ∈ a, k ≠ c) → (∀ k ∈ b, k ≠ c) → c = d → a ++ c :: x = b ++ d :: y → a = b ∧ x = y
  | [], [], _, _, _, _, _, _, e, h => by
    subst e
    exact ⟨rfl, (List.cons.inj h).2⟩
  | [], k :: b, x, y, c, d, _, hb, e, h => absurd (List.cons.inj h).1.symm (hb k List.mem_cons_self)
  | k :: a, [], x, y, c, d, ha, _, e, h => absurd ((List.cons.inj h).1.trans e.symm) (ha k List.mem_cons_self)
  | k :: a, j :: b, x, y, c, d, ha, hb, e, h => by
    obtain ⟨h1, h2⟩ := List.cons.inj h
    obtain ⟨i1, i2⟩ := app_split (fun k hk => ha k (List.mem_cons_of_mem _ hk)) (fun k hk => hb k (List.mem_cons_of_mem _ hk)) e h2
    exact ⟨by rw [h1, i1], i2⟩
theorem fform_split {z : Str} (al : Alph z) {f g : Fc} (hf : FOk z f) (hg : FOk z g) {x y : List Nat} (h : tl (fform f) ++ x = tl (fform g) ++ y) : f = g ∧ x = y := by
  have low : ∀ {f : Fc}, FOk z f → ∀ c ∈ tl f.2, 97 ≤ c ∧ c ≤ 122 := fun h c hc => al.2.2.2 c (h.2.1.subset hc)
  have lf := low hf
  have lg := low hg
  rw [fform_tl, fform_tl] at h
  obtain ⟨a, s⟩ := f
  obtain ⟨b, t⟩ := g
  simp only at h lf lg
  cases a <;> cases b
  · simp only [Bool.false_eq_true, if_false, List.append_assoc, List.cons_append, List.nil_append] at h
    obtain ⟨e1, e2⟩ := app_split (fun k hk => by have := lf k hk; omega) (fun k hk => by have := lg k hk; omega) rfl h
    exact ⟨by rw [tl_inj e1], e2⟩
  · simp only [Bool.false_eq_true, if_false, if_true, List.append_assoc, List.cons_append, List.nil_append] at h
    cases e : tl s with
    | nil => exact absurd e hf.1
    | cons c r =>
      rw [e] at h
      have h1 := (List.cons.inj h).1
      have := lf c (by rw [e]; exact List.mem_cons_self)
      omega
  · simp only [Bool.false_eq_true, if_false, if_true, List.append_assoc, List.cons_append, List.nil_append] at h
    cases e : tl t with
    | nil => exact absurd e hg.1
    | cons c r =>
      rw [e] at h
      have h1 := (List.cons.inj h).1
      have := lg c (by rw [e]; exact List.mem_cons_self)
      omega
  · simp only [if_true, List.append_assoc, List.cons_append, List.nil_append] at h
    have h1 := (List.cons.inj h).2
    obtain ⟨e1, e2⟩ := app_split (fun k hk => by have := lf k hk; omega) (fun k hk => by have := lg k hk; omega) rfl h1
    exact ⟨by rw [tl_inj e1], (List.cons.inj e2).2⟩
theorem flat_inj {z : Str} (al : Alph z) : ∀ (fs gs : List Fc), (∀ f ∈ fs, FOk z f) → (∀ f ∈ gs, FOk z f) → (fs.map fun f => tl (fform f)).flatten = (gs.map fun f => tl (fform f)).flatten → fs = gs
  | [], [], _, _, _ => rfl
  | [], g :: gs, _, _, h => by
    rw [List.map_cons, List.flatten_cons, List.map_nil, List.flatten_nil, fform_tl] at h
    split at h <;> simp at h
  | f :: fs, [], _, _, h => by
    rw [List.map_cons, List.flatten_cons, List.map_nil, List.flatten_nil, fform_tl] at h
    split at h <;> simp at h
  | f :: fs, g :: gs, hf, hg, h => by
    rw [List.map_cons, List.map_cons, List.flatten_cons, List.flatten_cons] at h
    obtain ⟨e1, e2⟩ := fform_split al (hf f List.mem_cons_self) (hg g List.mem_cons_self) h
    rw [e1, flat_inj al fs gs (fun f h => hf f (List.mem_cons_of_mem _ h)) (fun f h => hg f (List.mem_cons_of_mem _ h)) e2]
theorem pform_tl {fs : List Fc} (h : fs ≠ []) : tl (pform fs) = (fs.map fun f => tl (fform f)).flatten := by
  unfold pform
  rw [if_neg h, tl_cat, List.map_map]
  rfl
theorem pform_nil {z : Str} (al : Alph z) {g : Fc} {gs : List Fc} (hg : FOk z g) : tl (pform []) ≠ tl (pform (g :: gs)) := by
  rw [pform_tl (List.cons_ne_nil _ _), List.map_cons, List.flatten_cons, fform_tl]
  have e : tl (pform []) = [45] := by
    unfold pform
    rw [if_pos rfl]
    decide +kernel
  rw [e]
  split
  · intro h
    have := (List.cons.inj h).1
    omega
  · cases q : tl g.2 with
    | nil => exact absurd q hg.1
    | cons c r =>
      intro h
      have h1 := (List.cons.inj h).1
      have := al.2.2.2 c (hg.2.1.subset (by rw [q]; exact List.mem_cons_self))
      omega
theorem pform_inj {z : Str} (al : Alph z) {fs gs : List Fc} (hf : ∀ f ∈ fs, FOk z f) (hg : ∀ f ∈ gs, FOk z f) (h : tl (pform fs) = tl (pform gs)) : fs = gs := by
  match fs, gs, hf, hg, h with
  | [], [], _, _, _ => rfl
  | [], g :: gs, _, hg, h => exact absurd h (pform_nil al (hg g List.mem_cons_self))
  | f :: fs, [], hf, _, h => exact absurd h.symm (pform_nil al (hf f List.mem_cons_self))
  | f :: fs, g :: gs, hf, hg, h =>
    rw [pform_tl (List.cons_ne_nil _ _), pform_tl (List.cons_ne_nil _ _)] at h
    exact flat_inj al _ _ hf hg h
theorem sorted_uniq {le : List Fc → List Fc → Prop} : ∀ (l m : List (List Fc)), (∀ a ∈ l, ∀ b ∈ l, le a b → le b a → a = b) → l.Pairwise le → m.Pairwise le → l.Nodup → m.Nodup → (∀ x, x ∈ l ↔ x ∈ m) → l = m
  | [], [], _, _, _, _, _, _ => rfl
  | [], b :: m, _, _, _, _, _, h => (nomatch (h b).mpr List.mem_cons_self)
  | a :: l, [], _, _, _, _, _, h => (nomatch (h a).mp List.mem_cons_self)
  | a :: l, b :: m, an, pl, pm, nl, nm, h => by
    have pl' := List.pairwise_cons.mp pl
    have pm' := List.pairwise_cons.mp pm
    have nl' := List.nodup_cons.mp nl
    have nm' := List.nodup_cons.mp nm
    have e : a = b := by
      rcases List.mem_cons.mp ((h a).mp List.mem_cons_self) with q | q
      · exact q
      · rcases List.mem_cons.mp ((h b).mpr List.mem_cons_self) with w | w
        · exact w.symm
        · exact an a List.mem_cons_self b (List.mem_cons_of_mem _ w) (pl'.1 b w) (pm'.1 a q)
    subst e
    rw [sorted_uniq l m (fun x hx y hy => an x (List.mem_cons_of_mem _ hx) y (List.mem_cons_of_mem _ hy)) pl'.2 pm'.2 nl'.2 nm'.2 fun x => ?_]
    constructor
    · intro hx
      rcases List.mem_cons.mp ((h x).mp (List.mem_cons_of_mem _ hx)) with q | q
      · rw [q] at hx; exact absurd hx nl'.1
      · exact q
    · intro hx
      rcases List.mem_cons.mp ((h x).mpr (List.mem_cons_of_mem _ hx)) with q | q
      · rw [q] at hx; exact absurd hx nm'.1
      · exact q
theorem pform_low {z : Str} (al : Alph z) {q : List Fc} (ok : ∀ f ∈ q, FOk z f) : ∀ c ∈ tl (pform q), c < 128 := fun c hc => by
  by_cases e : q = []
  · subst e
    have : c ∈ [45] := hc
    rw [List.mem_singleton.mp this]
    decide
  · rw [pform_tl e] at hc
    obtain ⟨l, hl, hc⟩ := List.mem_flatten.mp hc
    obtain ⟨f, hf, rfl⟩ := List.mem_map.mp hl
    have low := (fok_low al (ok f hf)).1
    have hc : c ∈ tl (fform f) := hc
    rw [fform_tl] at hc
    by_cases k : f.1 = true
    · rw [if_pos k] at hc
      rcases List.mem_cons.mp hc with h | h
      · rw [h]
        decide
      · rcases List.mem_append.mp h with h | h
        · exact low c h
        · simp only [List.mem_cons, List.not_mem_nil, or_false] at h
          omega
    · rw [if_neg k] at hc
      rcases List.mem_append.mp hc with h | h
      · exact low c h
      · rw [List.mem_singleton.mp h]
        decide
theorem red_id {q : List Fc} (h : Apart q) : red q = q := by
  have := fold_rev q.reverse h.rev
  rw [List.reverse_reverse] at this
  unfold red
  rw [this, List.reverse_reverse]
theorem CfOk.sub {z : Str} (al : Alph z) {qs qs' R R' : List (List Fc)} (C : CfOk z qs R) (C' : CfOk z qs' R') (h : ∀ u, Com qs u ↔ Com qs' u) : ∀ r ∈ R, r ∈ R' := fun r hr => by
  have wr := fok_w1 (C.rz r hr).ok
  obtain ⟨r', hr', i1⟩ := into_any wr C'.rz fun u hu => (C'.lang u).mpr ((h u).mp ((C.lang u).mp ⟨r, hr, hu⟩))
  obtain ⟨r'', hr'', i2⟩ := into_any (fok_w1 (C'.rz r' hr').ok) C.rz fun u hu => (C.lang u).mpr ((h u).mpr ((C'.lang u).mp ⟨r', hr', hu⟩))
  have i3 := inc_trans (fok_w1 (C.rz r'' hr'').ok) wr i2 i1
  have e := C.anti r'' hr'' r hr i3
  rw [← e] at i2
  rw [inc_anti al (C.rz r hr) (C'.rz r' hr') i2 i1]
  exact hr'
theorem cf_uniq {z : Str} (al : Alph z) {qs qs' R R' : List (List Fc)} (C : CfOk z qs R) (C' : CfOk z qs' R') (h : ∀ u, Com qs u ↔ Com qs' u) (s : R.Pairwise fun x y => tl (pform x) ≤ tl (pform y)) (s' : R'.Pairwise fun x y => tl (pform x) ≤ tl (pform y)) : R = R' := by
  refine sorted_uniq (le := fun x y => tl (pform x) ≤ tl (pform y)) R R' (fun a ha b hb l1 l2 => pform_inj al (C.rz a ha).ok (C.rz b hb).ok (List.le_antisymm l1 l2)) s s' C.nd C'.nd fun x => ⟨C.sub al C' h x, C'.sub al C (fun u => (h u).symm) x⟩
theorem com_swap {p q : List Fc} (u : List Nat) : Com [p, q] u ↔ Com [q, p] u := by
  have : ∀ {p q : List Fc}, Com [p, q] u → Com [q, p] u := fun {p q} h x hx => h x (by
    simp only [List.mem_cons, List.not_mem_nil, or_false] at hx ⊢
    exact hx.symm)
  exact ⟨this, this⟩
/-! lists of texts of any length as data -/
theorem txs_ok : ∀ ws : List Str, (∀ u ∈ ws, ∀ c ∈ tl u, c < 128) → PyData.canLayAll0 (ws.map PyData.str) = true ∧ PyData.depthAll (ws.map PyData.str) = 0
  | [], _ => ⟨rfl, rfl⟩
  | u :: r, h => by
    obtain ⟨h1, h2⟩ := txs_ok r fun q hq => h q (List.mem_cons_of_mem _ hq)
    have so : PyData.strOk u = true := by
      unfold PyData.strOk
      rw [Array.all_eq_true]
      intro i hi
      have := h u List.mem_cons_self u.cps[i] (by show u.cps[i] ∈ u.cps.toList; rw [Array.mem_toList_iff]; exact Array.getElem_mem hi)
      exact decide_eq_true (by omega)
    rw [List.map_cons]
    exact ⟨by simp only [PyData.canLayAll0, PyData.canLay0, so, h1, Bool.and_self], by simp only [PyData.depthAll, PyData.depth, h2]; rfl⟩
theorem txs_shaped {ws : List Str} (h : ∀ u ∈ ws, ∀ c ∈ tl u, c < 128) : SeqAt.shaped (strD ws) = true := by
  obtain ⟨h1, h2⟩ := txs_ok ws h
  unfold SeqAt.shaped strD
  rw [Bool.and_eq_true]
  exact ⟨by simp only [PyData.canLay0, h1], decide_eq_true (by simp only [PyData.depth, h2]; omega)⟩
theorem txs_eqv {ws : List Str} (h : ∀ u ∈ ws, ∀ c ∈ tl u, c < 128) : PyData.eqv (strD ws) (strD ws) = true := by
  obtain ⟨h1, _⟩ := txs_ok ws h
  exact PySem.SeqAt.eqv_refl _ (by unfold strD; simp only [PyData.canLay0, h1])
end DW
/-! k12: the limit of the error -/
namespace DW
open PySem PySem.Spec PyProof.Rows L2 TL
set_option autoImplicit false
def spLm (K : PySem.W.Frag) : Sp := fun vs H Q _ => ∃ (x y : V) (z : Str) (p q : List Fc), vs = [x, y] ∧ IsP K H x p ∧ IsP K H y q ∧ Alph z ∧ (∀ f ∈ p, FOk z f) ∧ (∀ f ∈ q, FOk z f) ∧ p.length ≤ 1000 ∧ q.length ≤ 1000 ∧
  (p.length ≤ 8 → q.length ≤ 8 → ∀ H', Same H H' → Q .non H') ∧ (8 < p.length ∨ 8 < q.length → ∀ H', Same H H' → Q (.int 8) H')
section
variable {P : Program} {w : World} {K : PySem.W.Frag} {mg' : Str → Option Value} {base : Heap}
theorem scLm : FnScope ["_law_product_here", "_law_other", "e"] ["_law_product_here", "_law_other"] (defScope sLLimit) := ⟨rfl, rfl, rfl, by decide +kernel, rfl, by decide +kernel, by decide +kernel⟩
theorem ok_lm (D : Df K mg' "_law_limit" sLLimit ["_law_product_here", "_law_other"]) (Dc : DfCpt K mg') (M : EX.DfE P K mg' "TooLarge" "limit" EX.MsgOk) (e1 : PySem.W.exmOne K (.ref M.C) (.ref M.C) = some true) : FnOk P w K mg' base CX0 26 D.f D.fd ["_law_product_here", "_law_other"] (spLm K) := by
  have Gc : FnOk P w K mg' base (L2.CX P w) 25 Dc.t.f Dc.t.fd ["product", "other"] (spCpt K M.C) := ok_cpt Dc M
  refine D.F.ok scLm (fun vs H Q E h => ?_) (fun cdv A outer s H vs Q E hr h => ?_)
  · obtain ⟨x, y, z, p, q, rfl, _⟩ := h
    rfl
  · obtain ⟨x, y, z, p, q, rfl, isp, isq, al, okp, okq, pl, ql, k1, k2⟩ := h
    refine ⟨_, (pss_cons (ps_try_as (i := 2) rfl rfl scLm.nd rfl rfl ⟨rfl, by decide, .inl M.g⟩ takes0 (fun W pn xe tk _ => (pss_one (ps_expr (pe_callS Gc hr (by rfl) Dc.t.g Dc.t.F.kp Dc.t.b (fun σ => passAt tk σ) (pa_cons (pv 0) (pa_cons (pv 1) pa_nil)))))) (fun a oe cls d pn hz hf => (pss_one (ps_ret (EX.pe_xfE hz hf (pv 2)))))) (pss_one (ps_ret pe_non))), ?_⟩
    refine ⟨x, rfl, y, rfl, x, y, z, p, q, rfl, isp, isq, al, okp, okq, pl, ql, fun h1 h2 H' u rvs R s1 _ _ _ _ _ => k1 h1 h2 _ s1, fun h H' d s1 nd => ?_⟩
    have sd := same_upd (o := .xd [(("limit" : Str), V.int 8)]) nd
    have gd : (upd H' d (.xd [(("limit" : Str), V.int 8)])) d = some (.xd [(("limit" : Str), V.int 8)]) := upd_same
    refine ⟨true, e1, fun _ a ha => ?_, fun q => nomatch q⟩
    exact ⟨.ref a, rfl, M.C, rfl, rfl, M.T, M.no, d, _, .int 8, rfl, gd, rfl, k2 h _ (s1.trans sd)⟩
end
end DW
/-! the list that stands for a language (out of HL5) -/
namespace DW
open PySem PySem.Spec PyProof.Rows L2 TL
set_option autoImplicit false
theorem asc_of2 : ∀ ys : List Str, ys.Nodup → sortedS ys = true → ys.Pairwise (fun a b => tl a < tl b)
  | [], _, _ => List.Pairwise.nil
  | [y], _, _ => List.pairwise_singleton _ _
  | y :: z :: r, nd, so => by
    obtain ⟨hy, nd'⟩ := List.nodup_cons.mp nd
    have so' : (!ltCps (tl z) (tl y) && risingS z r) = true := so
    rw [Bool.and_eq_true] at so'
    have pw := asc_of2 (z :: r) nd' so'.2
    have lt : tl y < tl z := by
      have q := so'.1
      rw [ltCps_eq] at q
      have n1 : ¬ tl z < tl y := by simpa using q
      have n2 : tl y ≠ tl z := fun e => hy (by
        have e' : y = z := by
          cases y
          cases z
          exact congrArg Str.mk (Array.toList_inj.mp e)
        rw [e']
        exact List.mem_cons_self)
      rcases List.le_total (tl y) (tl z) with h | h
      · rcases Decidable.em (tl y < tl z) with g | g
        · exact g
        · exact absurd (List.le_antisymm h g) n2
      · exact absurd (List.le_antisymm (n1 : tl y ≤ tl z) h) n2
    refine List.pairwise_cons.mpr ⟨fun u hu => ?_, pw⟩
    rcases List.mem_cons.mp hu with q | q
    · rw [q]
      exact lt
    · exact List.lt_trans lt ((List.pairwise_cons.mp pw).1 u q)
theorem asc_uniq2 : ∀ (l m : List Str), l.Pairwise (fun a b => tl a < tl b) → m.Pairwise (fun a b => tl a < tl b) → (∀ x, x ∈ l ↔ x ∈ m) → l = m
  | [], [], _, _, _ => rfl
  | [], b :: m, _, _, h => by
    have := (h b).mpr List.mem_cons_self
    cases this
  | a :: l, [], _, _, h => by
    have := (h a).mp List.mem_cons_self
    cases this
  | a :: l, b :: m, p, q, h => by
    obtain ⟨pa, p'⟩ := List.pairwise_cons.mp p
    obtain ⟨qb, q'⟩ := List.pairwise_cons.mp q
    have ab : a = b := by
      rcases List.mem_cons.mp ((h a).mp List.mem_cons_self) with e | e
      · exact e
      · rcases List.mem_cons.mp ((h b).mpr List.mem_cons_self) with f | f
        · exact f.symm
        · exact absurd (List.lt_trans (pa b f) (qb a e)) (List.lt_irrefl _)
    subst ab
    rw [asc_uniq2 l m p' q' fun x => ?_]
    constructor
    · intro hx
      rcases List.mem_cons.mp ((h x).mp (List.mem_cons_of_mem _ hx)) with e | e
      · subst e
        exact absurd (pa x hx) (List.lt_irrefl _)
      · exact e
    · intro hx
      rcases List.mem_cons.mp ((h x).mpr (List.mem_cons_of_mem _ hx)) with e | e
      · subst e
        exact absurd (qb x hx) (List.lt_irrefl _)
      · exact e
/-- the list that stands for a language -/
structure Can (z : Str) (zs : List (List Fc)) : Prop where
  rz : ∀ q ∈ zs, Rz z q
  an : Anti zs
  nd : zs.Nodup
  so : zs.Pairwise fun x y => tl (pform x) ≤ tl (pform y)
theorem str_ok2 : ∀ (ws : List Str), (∀ u ∈ ws, ∀ c ∈ tl u, c < 128) → PyData.canLayAll0 (ws.map PyData.str) = true ∧ PyData.depthAll (ws.map PyData.str) = 0
  | [], _ => ⟨rfl, rfl⟩
  | u :: r, h => by
    obtain ⟨h1, h2⟩ := str_ok2 r fun q hq => h q (List.mem_cons_of_mem _ hq)
    have uc := h u List.mem_cons_self
    have so : PyData.strOk u = true := by
      unfold PyData.strOk
      rw [Array.all_eq_true]
      intro i hi
      have := uc u.cps[i] (by show u.cps[i] ∈ u.cps.toList; rw [Array.mem_toList_iff]; exact Array.getElem_mem hi)
      exact decide_eq_true (by omega)
    rw [List.map_cons]
    exact ⟨by simp only [PyData.canLayAll0, PyData.canLay0, so, h1, Bool.and_self], by simp only [PyData.depthAll, PyData.depth, h2]; rfl⟩
theorem str_shaped2 {ws : List Str} (h : ∀ u ∈ ws, ∀ c ∈ tl u, c < 128) : SeqAt.shaped (strD ws) = true := by
  obtain ⟨h1, h2⟩ := str_ok2 ws h
  unfold SeqAt.shaped strD
  rw [Bool.and_eq_true]
  exact ⟨by simp only [PyData.canLay0, h1], decide_eq_true (by simp only [PyData.depth, h2]; omega)⟩
theorem str_eqv2 {ws : List Str} (h : ∀ u ∈ ws, ∀ c ∈ tl u, c < 128) : PyData.eqv (strD ws) (strD ws) = true := by
  obtain ⟨h1, _⟩ := str_ok2 ws h
  exact PySem.SeqAt.eqv_refl _ (by unfold strD; simp only [PyData.canLay0, h1])
theorem IsL.take {K : PySem.W.Frag} {H : Hp} : ∀ {vs : List V} {fs : List (List Fc)} (n : Nat), IsL K H vs fs → IsL K H (vs.take n) (fs.take n)
  | _, _, 0, _ => by rw [List.take_zero, List.take_zero]; exact .nil
  | _, _, n + 1, .nil => .nil
  | _, _, n + 1, .cons h r => .cons h (r.take n)
theorem IsL.drop {K : PySem.W.Frag} {H : Hp} : ∀ {vs : List V} {fs : List (List Fc)} (n : Nat), IsL K H vs fs → IsL K H (vs.drop n) (fs.drop n)
  | _, _, 0, h => h
  | _, _, n + 1, .nil => .nil
  | _, _, n + 1, .cons h r => r.drop n
theorem not_rest {zs : List (List Fc)} (nd : zs.Nodup) {k : Nat} {q : List Fc} (h : zs[k]? = some q) : q ∉ zs.take k ++ zs.drop (k + 1) := by
  obtain ⟨hk, e⟩ := List.getElem?_eq_some_iff.mp h
  have e2 : zs = zs.take k ++ q :: zs.drop (k + 1) := by
    rw [← e, List.getElem_cons_drop, List.take_append_drop]
  rw [e2] at nd
  exact (List.nodup_cons.mp (List.perm_middle.nodup_iff.mp nd)).1
theorem Can.rest {z : Str} {zs : List (List Fc)} (C : Can z zs) {k : Nat} {q : List Fc} (h : zs[k]? = some q) : ((zs.take k ++ zs.drop (k + 1)).any fun m => inc m q) = false := by
  rw [List.any_eq_false]
  intro m hm hi
  have mz : m ∈ zs := by
    rcases List.mem_append.mp hm with e | e
    · exact List.mem_of_mem_take e
    · exact List.mem_of_mem_drop e
  have := C.an m mz q (List.mem_of_getElem? h) hi
  rw [← this] at hm
  exact not_rest C.nd h hm
theorem Can.names {z : Str} (al : Alph z) {zs : List (List Fc)} (C : Can z zs) {ys : List Str} (pm : ys.Perm (zs.map pform)) (so : sortedS ys = true) : ys = zs.map pform := by
  have pw : (zs.map pform).Pairwise (fun a b => tl a < tl b) := by
    rw [List.pairwise_map]
    have both := List.pairwise_and_iff.mpr ⟨C.so, C.nd⟩
    refine List.Pairwise.imp_of_mem (fun {a b} ha hb h => ?_) both
    refine Classical.byContradiction fun e => ?_
    exact absurd (pform_inj al (C.rz a ha).ok (C.rz b hb).ok (List.le_antisymm h.1 (List.not_lt.mp e))) h.2
  have nd : (zs.map pform).Nodup := pw.imp fun h e => by
    rw [e] at h
    exact List.lt_irrefl _ h
  exact asc_uniq2 _ _ (asc_of2 ys (pm.nodup_iff.mpr nd) so) pw fun x => pm.mem_iff
end DW
/-! The common part of a product with itself. -/
namespace DW
open PySem PySem.Spec PyProof.Rows L2 TL
set_option autoImplicit false
theorem rz_red {z : Str} {p : List Fc} (ok : ∀ f ∈ p, FOk z f) : Rz z (red p) := ⟨fun f hf => ok f (red_mem hf), red_apart p⟩
theorem CfOk.inside {z : Str} {qs R : List (List Fc)} (C : CfOk z qs R) {r q : List Fc} (hr : r ∈ R) (hq : q ∈ qs) (wq : W1 q) : inc q r = true :=
  (inc_lang (fok_w1 (C.rz r hr).ok) wq).mpr fun u hu => (C.lang u).mp ⟨r, hr, hu⟩ q hq
theorem cf_self {z : Str} (al : Alph z) {p : List Fc} (ok : ∀ f ∈ p, FOk z f) {R : List (List Fc)} (C : CfOk z [p, p] R) : R = [red p] := by
  have wp := fok_w1 ok
  have rr := rz_red ok
  have wr := fok_w1 rr.ok
  have h0 : inc p (red p) = true := (inc_lang wr wp).mpr fun u hu => (red_lg p u).mpr hu
  obtain ⟨r, hr, ir⟩ := C.into wr ((pbh_inc (red p) [p, p]).mpr fun q hq => by
    have e : q = p := by simpa using hq
    rw [e]; exact h0)
  have key : ∀ r' ∈ R, inc (red p) r' = true := fun r' hr' => (inc_lang (fok_w1 (C.rz r' hr').ok) wr).mpr fun u hu => (red_lg p u).mp ((C.lang u).mp ⟨r', hr', hu⟩ p List.mem_cons_self)
  have one : ∀ r' ∈ R, r' = r := fun r' hr' => C.anti r hr r' hr' (inc_trans (fok_w1 (C.rz r hr).ok) (fok_w1 (C.rz r' hr').ok) ir (key r' hr'))
  have e : r = red p := inc_anti al (C.rz r hr) rr ir (key r hr)
  subst e
  have nd := C.nd
  match R, hr, one, nd with
  | [x], hr, one, _ => rw [one x List.mem_cons_self]
  | x :: y :: l, hr, one, nd =>
    have h1 := one x List.mem_cons_self
    have h2 := one y (List.mem_cons_of_mem _ List.mem_cons_self)
    exact absurd (by rw [h1, h2]; exact List.mem_cons_self) (List.nodup_cons.mp nd).1
end DW
/-! the law's own look at a list of products; when all words are in one -/
namespace DW
open PySem PySem.Spec PyProof.Rows L2 TL
set_option autoImplicit false
/-! ### the law's own look -/
def spLin (K : PySem.W.Frag) : Sp := fun vs H Q _ => ∃ (a : Addr) (z x : Str) (xs : List V) (ps : List (List Fc)), vs = [.ref a, .str x] ∧ SqL K H a xs ∧ IsL K H xs ps ∧ Alph z ∧ (∀ p ∈ ps, ∀ f ∈ p, FOk z f) ∧ ps.length ≤ 15000000 ∧ (tl x).length ≤ 100000 ∧ ∀ H' b, Same H H' → (b = true ↔ ∃ p ∈ ps, Lg p (tl x)) → Q (.bl b) H'
section
variable {P : Program} {w : World} {K : PySem.W.Frag} {mg : Str → Option Value} {base : Heap}
theorem scLin : FnScope ["_law_products", "_law_word", "_law_product_here"] ["_law_products", "_law_word"] (defScope sLIn) := ⟨rfl, rfl, rfl, by decide +kernel, rfl, by decide +kernel, by decide +kernel⟩
theorem ok_lin (D : Df K mg "_law_in" sLIn ["_law_products", "_law_word"]) (Di : Df K mg "_law_in_product" sLInProduct ["_law_product_here", "_law_word"]) (B : Bl mg) (ml : mg "list" = none) : FnOk P w K mg base CX0 2 D.f D.fd ["_law_products", "_law_word"] (spLin K) := by
  have Gi : FnOk P w K mg base CX0 1 Di.f Di.fd ["_law_product_here", "_law_word"] (spInP K) := ok_inp Di B ml
  refine D.F.ok scLin (fun vs H Q E h => ?_) (fun cdv A outer s H vs Q E hr h => ?_)
  · obtain ⟨a, z, x, xs, ps, rfl, _⟩ := h
    rfl
  · obtain ⟨a, z, x, xs, ps, rfl, ha, iL, al, ok, pl, xl, k⟩ := h
    have xsl := iL.len
    refine ⟨_, (pss_one (ps_ret (pe_cmpR (op_neD hr.units) (pe_lc (own := [("_law_product_here", 2)]) (g := gName 2) rfl scLin.nd (pi_list (pv 0)) (blkOk_by (N := ["_law_products", "_law_word", "_law_product_here"]) (sc := defScope sLIn) (by decide +kernel)) (fun _ _ _ _ _ => pg_name (i := 2) scLin.nd rfl (Or.inl rfl)) (fun _ _ _ _ _ => (pts_one (pt_val (pe_call Gi hr (by rfl) Di.g Di.F.kp Di.b .nil pass0 (pa_cons (pv 2) (pa_cons (pv 1) pa_nil)))))) (fun _ _ _ _ _ => (pv 2))) (pe_lst pa_nil) (nomark _)))), ?_⟩
    refine ⟨.ref a, rfl, a, rfl, ⟨_, ha⟩, fun L hL => ?_⟩
    refine lc_it (walk_list (xs := xs)) (fun i H' => ∃ ys qs, H' L = some (.lst ys) ∧ IsL K H' ys qs ∧ (∀ q ∈ qs, q ∈ ps) ∧ (qs ≠ [] ↔ ∃ p ∈ ps.take i, Lg p (tl x)) ∧ qs.length ≤ i ∧ Same H H') ⟨[], [], upd_same, .nil, fun q hq => (nomatch hq), by simp, Nat.le_refl _, same_upd hL⟩ (fun _ _ _ ⟨_, _, _, _, _, _, _, sm⟩ => same_lst sm ha) ?_ ?_
    · rintro i y G G' hi ⟨ys, qs, gL, iQ, sub, iff_, ql, sm⟩ ⟨rfl, hy⟩
      obtain ⟨p, hp, isp⟩ := iL.get i y hy
      have pm : p ∈ ps := List.mem_of_getElem? hp
      refine ⟨rfl, y, rfl, .str x, rfl, y, p, x, rfl, isp.mono (same_tup sm), xl, fun G1 b s1 hb => ?_⟩
      have gL1 := s1 _ _ gL
      have sm1 := sm.trans s1
      refine ⟨b, rfl, ?_⟩
      cases b with
      | true =>
        refine iteT ⟨y, rfl, ys, gL1, by rw [iQ.len, sizeLine_eq]; omega, ys ++ [y], qs ++ [p], upd_same, ?_, fun q hq => ?_, ?_, by rw [List.length_append]; show _ + 1 ≤ _; omega, fun b o e => (upd_ne (ne_of_none e hL)).trans (sm1 _ _ e)⟩
        · exact ((iQ.mono (same_tup s1)).app (.cons (isp.mono (same_tup sm1)) .nil)).mono fun b ws hw => upd_lst gL1 b ws hw
        · rcases List.mem_append.mp hq with e | e
          · exact sub q e
          · rw [List.mem_singleton.mp e]
            exact pm
        · rw [List.take_add_one, hp]
          exact ⟨fun _ => ⟨p, List.mem_append_right _ List.mem_cons_self, hb.mp rfl⟩, fun _ => by simp⟩
      | false =>
        refine iteF ⟨ys, qs, gL1, iQ.mono (same_tup s1), sub, ?_, by omega, sm1⟩
        rw [iff_, List.take_add_one, hp]
        constructor
        · rintro ⟨q, hq, hl⟩
          exact ⟨q, List.mem_append_left _ hq, hl⟩
        · rintro ⟨q, hq, hl⟩
          rcases List.mem_append.mp hq with e | e
          · exact ⟨q, e, hl⟩
          · have e' : q = p := List.mem_singleton.mp e
            rw [e'] at hl
            exact absurd (hb.mpr hl) (by simp)
    · rintro G ⟨ys, qs, gL, iQ, sub, iff_, ql, sm⟩
      rw [xsl, List.take_length] at iff_
      refine ⟨by show 0 ≤ sizeLine; decide, fun l2 hl2 => ?_⟩
      have s2 := same_upd (o := .lst []) hl2
      refine ⟨.list (qs.map pD), .list [], .lst (SqL.of (s2 _ _ gL)) (iQ.mono (same_tup s2)).dp, .lst (SqL.of upd_same) .nil, ps_shaped al fun q hq => ok q (sub q hq), nil_shaped, ?_⟩
      refine k _ _ (sm.trans s2) ?_
      rw [eqv_nil, ← iff_]
      cases qs <;> simp
end
end DW
namespace DW
open PySem PySem.Spec PyProof.Rows L2 TL
def clsBody (s : Stmt) : List Stmt := match s with
  | .ClassDef _ _ _ b _ _ _ _ _ _ _ => b
  | _ => []
def clsS (i j : Nat) : Stmt := (clsBody (topS i)).getD j (.Pass ⟨0, 0, 0, 0⟩)
end DW
set_option maxHeartbeats 0
namespace DW
open PySem PySem.Spec PyProof.Rows L2
def mkD (x : Str) (st : Stmt) : He.DefD := ⟨(x, none), x, x, defArgs st, defBody st, defScope st, [], []⟩
def fn : List He.DefD := [mkD "law" sLaw, mkD "format_factor" sFormatFactor, mkD "format_product" sFormatProduct, mkD "letters_of" sLettersOf, mkD "swallows" sSwallows, mkD "covers" sCovers, mkD "reduce_product" sReduceProduct, mkD "behind" sBehind, mkD "place_behind" sPlaceBehind, mkD "is_included" sIsIncluded, mkD "subwords_product" sSubwordsProduct, mkD "star_product" sStarProduct, mkD "by_written_form" sByWrittenForm, mkD "in_front" sInFront, mkD "places_behind" sPlacesBehind, mkD "places_by_letter" sPlacesByLetter, mkD "branch_of" sBranchOf, mkD "is_in_larger_branch" sIsInLargerBranch, mkD "join_branches" sJoinBranches, mkD "common_from" sCommonFrom, mkD "common_products" sCommonProducts, mkD "common_part" sCommonPart, mkD "_law_begin" sBegin, mkD "_law_draw" sDraw, mkD "_law_pick" sPick, mkD "_law_alphabet" sAlpha, mkD "_law_factor" sFactor, mkD "_law_product" sProduct, mkD "_law_words" sLWords, mkD "_law_in_product" sLInProduct, mkD "_law_in" sLIn, mkD "_law_limit" sLLimit]
def fa : List He.Fa := [.glo "law", .glo "format_factor", .glo "format_product", .glo "letters_of", .glo "swallows", .glo "covers", .glo "reduce_product", .glo "behind", .glo "place_behind", .glo "is_included", .glo "subwords_product", .glo "star_product", .glo "by_written_form", .glo "in_front", .glo "places_behind", .glo "places_by_letter", .glo "branch_of", .glo "is_in_larger_branch", .glo "join_branches", .glo "common_from", .glo "common_products", .glo "common_part", .glo "_law_begin", .glo "_law_draw", .glo "_law_pick", .glo "_law_alphabet", .glo "_law_factor", .glo "_law_product", .glo "_law_words", .glo "_law_in_product", .glo "_law_in", .glo "_law_limit", .free "len", .free "sorted", .free "set", .free "all", .free "tuple", .free "zip", .free "list", .free "range", .free "isinstance", .int "COMMON_PART_LIMIT" 8, .str "EMPTY_FORM" "-", .free "super"]
abbrev R : PySem.W.OpenRow := PySem.W.OpenLaw.row PySem.Challenge.rw_downwords_k12_common_parts
def xs : EX.Xs := { ini := [⟨"TooLarge", "TooLarge.__init__", "limit", defArgs (clsS 2 0), defBody (clsS 2 0), defScope (clsS 2 0)⟩], ex := [], kit := [], exm := [("TooLarge", "TooLarge", true)], own := [], kty := [] }
abbrev hk : PySem.W.Hook := EX.hookX R.prog 4 fa fn xs
def ob (s : PySem.W.SharedT) : EX.AlX := EX.obsXG R.prog 4 fa fn xs (HandSHeadRun.getT s)
theorem ob_eq (s : PySem.W.SharedT) : ob s = hk.obs s.abs := EX.obsXG_eq (HandSHeadRun.getT_eq s)
abbrev names : List Str := "__name__" :: "DownwordsError" :: "TooLarge" :: "COMMON_PART_LIMIT" :: "EMPTY_FORM" :: "format_factor" :: "format_product" :: "letters_of" :: "swallows" :: "covers" :: "reduce_product" :: "behind" :: "place_behind" :: "is_included" :: "subwords_product" :: "star_product" :: "by_written_form" :: "in_front" :: "places_behind" :: "places_by_letter" :: "branch_of" :: "is_in_larger_branch" :: "join_branches" :: "common_from" :: "common_products" :: "common_part" :: "_law_begin" :: "_law_draw" :: "_law_pick" :: "_law_alphabet" :: "_law_factor" :: "_law_product" :: "_law_words" :: "_law_in_product" :: "_law_in" :: "_law_limit" :: []
theorem run (w : World) : HandSHeadRun.RunEq R (PySem.W.view R.prog [38]) hk ob 4000 names w := by
  intro os
  kernel_rfl
end DW
set_option maxHeartbeats 4000000
/-! k12: the law -/
namespace DW
open PySem PySem.Spec PyProof.Rows L2 TL
set_option autoImplicit false
section
variable {P : Program} {w : World} {K : PySem.W.Frag} {mg : Str → Option Value} {base : Heap}
structure Ds (P : Program) (K : PySem.W.Frag) (mg : Str → Option Value) where
  p_format_factor : Df K mg "format_factor" sFormatFactor ["factor"]
  p_format_product : Df K mg "format_product" sFormatProduct ["product"]
  p_letters_of : Df K mg "letters_of" sLettersOf ["factors"]
  p_swallows : Df K mg "swallows" sSwallows ["factor", "other"]
  p_covers : Df K mg "covers" sCovers ["factor", "other"]
  p_reduce_product : Df K mg "reduce_product" sReduceProduct ["product"]
  p_behind : Df K mg "behind" sBehind ["product", "place"]
  p_place_behind : Df K mg "place_behind" sPlaceBehind ["product", "other", "start"]
  p_is_included : Df K mg "is_included" sIsIncluded ["product", "other"]
  p_subwords_product : Df K mg "subwords_product" sSubwordsProduct ["word"]
  p_star_product : Df K mg "star_product" sStarProduct ["letters"]
  p_by_written_form : Df K mg "by_written_form" sByWrittenForm ["products"]
  p_in_front : Df K mg "in_front" sInFront ["factor", "product"]
  p_places_behind : Df K mg "places_behind" sPlacesBehind ["product", "others", "places"]
  p_places_by_letter : Df K mg "places_by_letter" sPlacesByLetter ["products", "places"]
  p_branch_of : Df K mg "branch_of" sBranchOf ["letter", "stay", "rests"]
  p_is_in_larger_branch : Df K mg "is_in_larger_branch" sIsInLargerBranch ["product", "start", "products", "steps", "branches"]
  p_join_branches : Df K mg "join_branches" sJoinBranches ["products", "steps", "branches"]
  p_common_from : Df K mg "common_from" sCommonFrom ["products", "places", "table"]
  p_common_products : Df K mg "common_products" sCommonProducts ["products"]
  p_common_part : Df K mg "common_part" sCommonPart ["product", "other"]
  begin : Df K mg "_law_begin" sBegin ["_law_script"]
  draw : Df K mg "_law_draw" sDraw ["_law_tape", "_law_many"]
  pick : Df K mg "_law_pick" sPick ["_law_tape", "_law_items"]
  alphabet : Df K mg "_law_alphabet" sAlpha ["_law_tape"]
  factor : Df K mg "_law_factor" sFactor ["_law_tape", "_law_alphabet_here"]
  product : Df K mg "_law_product" sProduct ["_law_tape", "_law_alphabet_here", "_law_longest"]
  words : Df K mg "_law_words" sLWords ["_law_alphabet_here", "_law_longest"]
  in_product : Df K mg "_law_in_product" sLInProduct ["_law_product_here", "_law_word"]
  in_ : Df K mg "_law_in" sLIn ["_law_products", "_law_word"]
  limit : Df K mg "_law_limit" sLLimit ["_law_product_here", "_law_other"]
  B : Bl mg
  b_all : mg "all" = none
  b_tuple : mg "tuple" = none
  b_zip : mg "zip" = none
  b_list : mg "list" = none
  b_isinstance : mg "isinstance" = none
  c_COMMON_PART_LIMIT : ∃ t, mg "COMMON_PART_LIMIT" = some (.int 8 t)
  c_EMPTY_FORM : ∃ t, mg "EMPTY_FORM" = some (.str "-" t)
  e_TooLarge : EX.DfE P K mg "TooLarge" "limit" EX.MsgOk
  m_TooLarge_TooLarge : PySem.W.exmOne K (.ref e_TooLarge.C) (.ref e_TooLarge.C) = some true
def spLaw (K : PySem.W.Frag) : Sp := fun vs H Q _ => ∃ (a : Addr) (ns : List Int), vs = [.ref a] ∧ SqL K H a (ns.map V.int) ∧ ∀ H', Q (.bl true) H'
theorem scLaw : FnScope ["_law_script", "_law_tape", "_law_turn", "_law_alphabet_here", "_law_one", "_law_other", "_law_found", "_law_kept", "_law_texts", "_law_k", "_law_word", "_law_due", "_law_factors", "_law_long", "_law_product_here"] ["_law_script"] (defScope sLaw) := ⟨rfl, rfl, rfl, by decide +kernel, rfl, by decide +kernel, by decide +kernel⟩
theorem ok_law (D : Df K mg "law" sLaw ["_law_script"]) (S : Ds P K mg) : FnOk P w K mg base CX0 27 D.f D.fd ["_law_script"] (spLaw K) := by
  let cpt : DfCpt K mg := ⟨S.p_common_part, S.p_common_products, ⟨S.p_by_written_form, S.p_format_product, S.p_format_factor, S.B.len, S.c_EMPTY_FORM, S.B.sorted⟩, ⟨S.p_common_from, S.p_places_by_letter, S.p_letters_of, S.p_subwords_product, S.p_branch_of, S.p_in_front, S.p_join_branches, S.p_is_in_larger_branch, S.p_star_product, ⟨S.p_places_behind, S.p_place_behind, S.p_behind, S.p_covers, S.p_swallows, S.b_all, S.b_tuple, S.b_zip, S.B⟩, S.b_list⟩, S.B, S.c_COMMON_PART_LIMIT⟩
  have Gb : FnOk P w K mg base CX0 1 S.begin.f S.begin.fd ["_law_script"] (spBegin K) := ok_begin S.begin
  have Gd : FnOk P w K mg base CX0 1 S.draw.f S.draw.fd ["_law_tape", "_law_many"] spDraw := ok_draw S.draw S.B.len
  have Gp : FnOk P w K mg base CX0 2 S.pick.f S.pick.fd ["_law_tape", "_law_items"] (spPick K) := ok_pick S.pick S.draw S.B.len
  have Ga : FnOk P w K mg base CX0 3 S.alphabet.f S.alphabet.fd ["_law_tape"] spAlpha := ok_alpha S.alphabet S.draw S.pick S.B
  have Gr : FnOk P w K mg base CX0 4 S.product.f S.product.fd ["_law_tape", "_law_alphabet_here", "_law_longest"] (spProduct K) := ok_product S.product S.factor S.draw S.pick S.B S.b_tuple
  have Gfa : FnOk P w K mg base CX0 3 S.factor.f S.factor.fd ["_law_tape", "_law_alphabet_here"] (spFactor K) := ok_factor S.factor S.draw S.pick S.B
  have Gi : FnOk P w K mg base CX0 4 S.p_is_included.f S.p_is_included.fd ["product", "other"] (spIncl K) := ok_incl ⟨S.p_is_included, S.p_place_behind, S.p_behind, S.p_covers, S.p_swallows⟩ S.b_all S.B.len
  have Gq : FnOk P w K mg base CX0 1 S.in_product.f S.in_product.fd ["_law_product_here", "_law_word"] (spInP K) := ok_inp S.in_product S.B S.b_list
  have Gl : FnOk P w K mg base CX0 2 S.in_.f S.in_.fd ["_law_products", "_law_word"] (spLin K) := ok_lin S.in_ S.in_product S.B S.b_list
  have Gc : FnOk P w K mg base CX0 25 S.p_common_part.f S.p_common_part.fd ["product", "other"] (spCpu K) := ok_cpu cpt
  have Gm : FnOk P w K mg base CX0 26 S.limit.f S.limit.fd ["_law_product_here", "_law_other"] (spLm K) := ok_lm S.limit cpt S.e_TooLarge S.m_TooLarge_TooLarge
  have Gz : FnOk P w K mg base CX0 2 S.p_reduce_product.f S.p_reduce_product.fd ["product"] (spRd K) := ok_rd S.p_reduce_product S.p_swallows S.b_all S.b_tuple
  have Gf : FnOk P w K mg base CX0 2 S.p_format_product.f S.p_format_product.fd ["product"] (spFp K) := ok_fp S.p_format_product S.p_format_factor S.B.len S.c_EMPTY_FORM
  have Gw : FnOk P w K mg base CX0 1 S.words.f S.words.fd ["_law_alphabet_here", "_law_longest"] spWords := ok_words S.words S.B
  refine D.F.ok scLaw (fun vs H Q E h => ?_) (fun cdv A outer s H vs Q E hr h => ?_)
  · obtain ⟨a, ns, rfl, _⟩ := h
    rfl
  · obtain ⟨a, ns, rfl, hS, k⟩ := h
    have hr1 : Room 1 _ := hr.mono (by decide)
    have hr2 : Room 2 _ := hr.mono (by decide)
    have hr3 : Room 3 _ := hr.mono (by decide)
    have hr4 : Room 4 _ := hr.mono (by decide)
    have hr25 : Room 25 _ := hr.mono (by decide)
    have hu : A.units + 3 + 66 < cLine := by
      have h1 := hr.un
      have h2 : A.units + 3 + 16 * 26 + 200 < cLine := h1
      omega
    have sl := sizeLine_eq
    have sx : ∀ y : Str, y.length = (tl y).length := fun y => (Array.length_toList).symm
    refine ⟨_, PSs.nox (pss_cons (ps_set (i := 1) scLaw.nd rfl (.inl rfl) (pe_call Gb hr1 (by rfl) S.begin.g S.begin.F.kp S.begin.b .nil pass0 (pa_cons (pv 0) pa_nil))) (pss_cons (ps_for PassesOwn.never rfl (pi_range1 rfl S.B.range (pa_cons pe_int pa_nil)) (pg_name (i := 2) scLaw.nd rfl (.inl rfl)) (pss_cons (ps_set (i := 3) scLaw.nd rfl (.inl rfl) (pe_call Ga hr3 (by rfl) S.alphabet.g S.alphabet.F.kp S.alphabet.b .nil pass0 (pa_cons (pv 1) pa_nil))) (pss_cons (ps_par (i := 4) (j := 5) rfl scLaw.nd rfl rfl (by decide) rfl rfl (pa_cons (pe_call Gr hr4 (by rfl) S.product.g S.product.F.kp S.product.b .nil pass0 (pa_cons (pv 1) (pa_cons (pv 3) (pa_cons pe_int pa_nil)))) (pa_cons (pe_call Gr hr4 (by rfl) S.product.g S.product.F.kp S.product.b .nil pass0 (pa_cons (pv 1) (pa_cons (pv 3) (pa_cons pe_int pa_nil)))) pa_nil)) (by rfl)) (pss_cons (ps_set (i := 5) scLaw.nd rfl (.inl rfl) (pe_call Gp hr2 (by rfl) S.pick.g S.pick.F.kp S.pick.b .nil pass0 (pa_cons (pv 1) (pa_cons (pe_lst (pa_cons (pv 5) (pa_cons (pv 5) (pa_cons (RV.pe_revQ (pv 4)) (pa_cons (pe_op op_catA (pe_slice sl_tupA (pv 4) (po_some pe_int) po_none) (pe_slice sl_tupA (pv 5) po_none (po_some pe_int))) pa_nil))))) pa_nil)))) (pss_cons (ps_set (i := 6) scLaw.nd rfl (.inr rfl) (pe_call Gc hr25 (by rfl) S.p_common_part.g S.p_common_part.F.kp S.p_common_part.b .nil pass0 (pa_cons (pv 4) (pa_cons (pv 5) pa_nil)))) (pss_cons (ps_set (i := 7) scLaw.nd rfl (.inl rfl) (pe_callTy call_list_of (by rfl) S.b_list (by decide +kernel) (pa_cons (pv 6) pa_nil))) (pss_cons (ps_expr (pe_bm PySem.F.plainAttrs_list PySem.F.slot_list_append PySem.F.type_list_append mt_append (pv 6) (pa_cons pe_non pa_nil))) (pss_cons (ps_set (i := 6) scLaw.nd rfl (.inr rfl) (pe_call Gc hr25 (by rfl) S.p_common_part.g S.p_common_part.F.kp S.p_common_part.b .nil pass0 (pa_cons (pv 4) (pa_cons (pv 5) pa_nil)))) (pss_cons (ps_if (pw_or (pt_not (pt_val (pe_callB call_isi (by rfl) S.b_isinstance (by decide +kernel) (pa_cons (pv 6) (pa_cons (pe_bltn (v := V.ty "list") (by rfl) S.b_list (by decide +kernel : bootBuiltins "list" = some (.type "list")) rfl) pa_nil))))) (pw_or (pt_cmpR (op_neD hr.units) (pe_call Gc hr25 (by rfl) S.p_common_part.g S.p_common_part.F.kp S.p_common_part.b .nil pass0 (pa_cons (pv 5) (pa_cons (pv 4) pa_nil))) (pv 6) (nomark _)) (pw_or1 (pt_cmpR (op_neD hr.units) (pv 6) (pv 7) (nomark _))))).pt (pss_one (ps_ret pe_bl)) pss_nil) (pss_cons (ps_setLc (i := 8) (own := [("_law_product_here", 14)]) (g := gName 14) rfl scLaw.nd rfl rfl (sw_true rfl rfl rfl (by decide +kernel)) (pi_list (pv 6)) (blkOk_by (N := ["_law_script", "_law_tape", "_law_turn", "_law_alphabet_here", "_law_one", "_law_other", "_law_found", "_law_kept", "_law_texts", "_law_k", "_law_word", "_law_due", "_law_factors", "_law_long", "_law_product_here"]) (sc := defScope sLaw) (by decide +kernel)) (fun _ _ _ _ _ => pg_name (i := 14) scLaw.nd rfl (Or.inl rfl)) (fun _ _ _ _ _ => pts_nil) (fun _ _ _ _ _ => (pe_call Gf hr2 (by rfl) S.p_format_product.g S.p_format_product.F.kp S.p_format_product.b .nil pass0 (pa_cons (pv 14) pa_nil)))) (pss_cons (ps_if (pt_cmpR (op_neD hr.units) (pv 8) (pe_callB (TXB.cr_sortedS hu) (by rfl) S.B.sorted (by decide +kernel) (pa_cons (pv 8) pa_nil)) (nomark _)) (pss_one (ps_ret pe_bl)) pss_nil) (pss_cons (ps_for PassesOwn.never rfl (pi_range1 rfl S.B.range (pa_cons (pe_callB call_len_seq (by rfl) S.B.len PySem.boot_len (pa_cons (pv 6) pa_nil)) pa_nil)) (pg_name (i := 9) scLaw.nd rfl (.inr rfl)) (pss_cons (ps_if (pt_cmpR (op_neD hr.units) (pe_call Gz hr2 (by rfl) S.p_reduce_product.g S.p_reduce_product.F.kp S.p_reduce_product.b .nil pass0 (pa_cons (pe_ix ix_list (pv 6) (pv 9) (fun _ _ => rfl)) pa_nil)) (pe_ix ix_list (pv 6) (pv 9) (fun _ _ => rfl)) (nomark _)) (pss_one (ps_ret pe_bl)) pss_nil) (pss_one (ps_if (pt_cmpR (op_neD hr.units) (pe_lc (own := [("_law_product_here", 14)]) (g := gName 14) rfl scLaw.nd (pi_list (pe_op op_cat (pe_slice sl_list (pv 6) po_none (po_some (pv 9))) (pe_slice sl_list (pv 6) (po_some (pe_op op_add (pv 9) pe_int)) po_none))) (blkOk_by (N := ["_law_script", "_law_tape", "_law_turn", "_law_alphabet_here", "_law_one", "_law_other", "_law_found", "_law_kept", "_law_texts", "_law_k", "_law_word", "_law_due", "_law_factors", "_law_long", "_law_product_here"]) (sc := defScope sLaw) (by decide +kernel)) (fun _ _ _ _ _ => pg_name (i := 14) scLaw.nd rfl (Or.inl rfl)) (fun _ _ _ _ _ => (pts_one (pt_val (pe_call Gi hr4 (by rfl) S.p_is_included.g S.p_is_included.F.kp S.p_is_included.b .nil pass0 (pa_cons (pe_ix (r := rIxL K) (by exact ix_list) (pv 6) (pv 9) (fun _ _ => rfl)) (pa_cons (pv 14) pa_nil)))))) (fun _ _ _ _ _ => (pv 14))) (pe_lst pa_nil) (nomark _)) (pss_one (ps_ret pe_bl)) pss_nil)))) (pss_one (ps_for PassesOwn.never rfl (pi_list (pe_call Gw hr1 (by rfl) S.words.g S.words.F.kp S.words.b .nil pass0 (pa_cons (pv 3) (pa_cons pe_int pa_nil)))) (pg_name (i := 10) scLaw.nd rfl (.inl rfl)) (pss_cons (ps_set (i := 11) scLaw.nd rfl (.inl rfl) (pe_and (pe_call Gq hr1 (by rfl) S.in_product.g S.in_product.F.kp S.in_product.b .nil pass0 (pa_cons (pv 4) (pa_cons (pv 10) pa_nil))) (pe_one (pe_call Gq hr1 (by rfl) S.in_product.g S.in_product.F.kp S.in_product.b .nil pass0 (pa_cons (pv 5) (pa_cons (pv 10) pa_nil)))))) (pss_one (ps_if (pt_cmpR op_ne (pe_call Gl hr2 (by rfl) S.in_.g S.in_.F.kp S.in_.b .nil pass0 (pa_cons (pv 6) (pa_cons (pv 10) pa_nil))) (pv 11) (nomark _)) (pss_one (ps_ret pe_bl)) pss_nil))))))))))))))))) (pss_cons (ps_set (i := 12) scLaw.nd rfl (.inl rfl) (pe_op op_rep (pe_lst (pa_cons (pe_tup (pa_cons pe_str (pa_cons pe_str pa_nil))) pa_nil)) pe_int)) (pss_cons (ps_if (pt_cmpR op_notN (pe_call Gm hr (by rfl) S.limit.g S.limit.F.kp S.limit.b .nil pass0 (pa_cons (pe_callTy call_tuple_of (by rfl) S.b_tuple (by decide +kernel) (pa_cons (pv 12) pa_nil)) (pa_cons (pe_callTy call_tuple_of (by rfl) S.b_tuple (by decide +kernel) (pa_cons (pe_slice sl_list (pv 12) po_none (po_some pe_int)) pa_nil)) pa_nil))) pe_non (nomark _)) (pss_one (ps_ret pe_bl)) pss_nil) (pss_cons (ps_set (i := 13) scLaw.nd rfl (.inl rfl) (pe_op op_catA (pe_callTy call_tuple_of (by rfl) S.b_tuple (by decide +kernel) (pa_cons (pv 12) pa_nil)) (pe_op (r := TM.rRepA K) TM.op_repA (pe_tup (pa_cons (pe_call Gfa hr3 (by rfl) S.factor.g S.factor.F.kp S.factor.b .nil pass0 (pa_cons (pv 1) (pa_cons pe_str pa_nil))) pa_nil)) (pe_op op_add pe_int (pe_call Gd hr1 (by rfl) S.draw.g S.draw.F.kp S.draw.b .nil pass0 (pa_cons (pv 1) (pa_cons pe_int pa_nil))))))) (pss_one (ps_ret (pe_and (pe_cmpR op_eq (pe_call Gm hr (by rfl) S.limit.g S.limit.F.kp S.limit.b .nil pass0 (pa_cons (pv 13) (pa_cons (pe_tup pa_nil) pa_nil))) pe_int (nomark _)) (pe_one (pe_cmpR op_eq (pe_call Gm hr (by rfl) S.limit.g S.limit.F.kp S.limit.b .nil pass0 (pa_cons (pe_tup (pa_cons (pe_tup (pa_cons pe_str (pa_cons pe_str pa_nil))) pa_nil)) (pa_cons (pv 13) pa_nil))) pe_int (nomark _))))))))))), ?_⟩
    refine ⟨.ref a, rfl, a, ns, rfl, hS, fun H0 t c s0 ht hc T0 => ?_⟩
    refine ⟨3, rfl, by decide, by decide, for_it walk_range (fun i σ H' => ∃ y2 y3 y4 y5 y6 y7 y8 y9 y10 y11, σ = [some (.ref a), some (.ref t), y2, y3, y4, y5, y6, y7, y8, y9, y10, y11, none, none, none] ∧ Tape H' t c (4000 * i)) ⟨_, _, _, _, _, _, _, _, _, _, rfl, T0⟩ (fun _ _ _ _ _ => trivial) ?_ ?_⟩
    · rintro i x σ G G' hi ⟨y2, y3, y4, y5, y6, y7, y8, y9, y10, y11, rfl, T⟩ ⟨rfl, rfl⟩
      refine ⟨.ref t, rfl, t, c, 4000 * i, rfl, T, by omega, fun H1 z k1 T1 al => ?_⟩
      have lw : ∀ {p : List Fc}, (∀ f ∈ p, FOk z f) → ∀ f ∈ p, Low f := fun ok f hf => fok_low al (ok f hf)
      refine ⟨.ref t, rfl, .str z, rfl, t, c, _, z, 5, rfl, T1, by omega, al, by omega, by omega, fun H3 v1 p1 k3 T3 isp1 ok1 len1 => ?_⟩
      refine ⟨.ref t, rfl, .str z, rfl, t, c, _, z, 5, rfl, T3, by omega, al, by omega, by omega, fun H4 v2 p2 k4 T4 isp2 ok2 len2 => ?_⟩
      obtain ⟨a1, xs1, rfl, ha1, iF1⟩ := id isp1
      obtain ⟨a2, xs2, rfl, ha2, iF2⟩ := id isp2
      have xl1 := iF1.len
      have xl2 := iF2.len
      refine ⟨_, _, rfl, .ref t, rfl, .ref a2, rfl, .ref a2, rfl, .ref a1, rfl, a1, xs1, rfl, k4.tup ha1, fun b9 hb9 => ?_⟩
      have s9 := same_upd (o := .tup xs1.reverse) hb9
      refine ⟨.ref a1, rfl, 1, rfl, ?_⟩
      unfold tNoPart
      refine sl_any (k4.tup ha1 |> same_tup s9 _ _) fun H6 b6 s6 hb6 => ?_
      refine ⟨.ref a2, rfl, 2, rfl, sl_any (same_tup (s9.trans s6) _ _ ha2) fun H7 b7 s7 hb7 => ?_⟩
      have c3 := cutV_length xs1 (some 1) none
      have c1 := cutV_length xs2 none (some 2)
      refine cat_any (same_tup s7 _ _ hb6) hb7 (by omega) fun H8 b8 s8 hb8 => ?_
      have s48 : Same H4 H8 := ((s9.trans s6).trans s7).trans s8
      refine ⟨by show 4 ≤ sizeLine; decide, fun l2 hl2 => ?_⟩
      have s10 := same_upd (o := .lst [.ref a2, .ref a2, .ref b9, .ref b8]) hl2
      have s410 := s48.trans s10
      refine ⟨t, c, _, .ref l2, rfl, T4.same s410, by omega, .inl ⟨l2, _, rfl, SqL.of upd_same, by simp, by show 4 < 2 ^ 30; decide, fun H11 v4 k11 T11 hv4 => ?_⟩⟩
      have k4b : Kp t H4 H11 := (T4.kp s410).trans k11
      have k3b : Kp t H3 H11 := k4.trans k4b
      have m1 : ∀ b xs, SqT K H8 b xs → SqT K H11 b xs := fun b xs h => k11.tup (same_tup s10 _ _ h)
      obtain ⟨p4, isp4, ok4, len4⟩ : ∃ p4, IsP K H11 v4 p4 ∧ (∀ f ∈ p4, FOk z f) ∧ p4.length ≤ 8 := by
        simp only [List.mem_cons, List.not_mem_nil, or_false] at hv4
        have e2 : IsP K H11 (.ref a2) p2 := isp2.mono (kp_tup k4b)
        rcases hv4 with e | e | e | e
        · rw [e]
          exact ⟨p2, e2, ok2, by omega⟩
        · rw [e]
          exact ⟨p2, e2, ok2, by omega⟩
        · rw [e]
          exact ⟨p1.reverse, ⟨b9, _, rfl, m1 _ _ (same_tup ((s6.trans s7).trans s8) _ _ (SqT.of upd_same)), (iF1.mono (kp_tup k3b)).rev⟩, fun f hf => ok1 f (List.mem_reverse.mp hf), by rw [List.length_reverse]; omega⟩
        · rw [e]
          refine ⟨p1.drop 1 ++ p2.take 2, ⟨b8, _, rfl, m1 _ _ hb8, ?_⟩, fun f hf => ?_, ?_⟩
          · rw [show cutV xs1 (some 1) none = xs1.drop 1 from cut_drop xs1 (by decide), show cutV xs2 none (some 2) = xs2.take 2 from cut_first xs2 2]
            exact ((iF1.mono (kp_tup k3b)).drop 1).app ((iF2.mono (kp_tup k4b)).take 2)
          · rcases List.mem_append.mp hf with h | h
            · exact ok1 f (List.mem_of_mem_drop h)
            · exact ok2 f (List.mem_of_mem_take h)
          · rw [List.length_append, List.length_drop, List.length_take]
            omega
      have ispA : IsP K H11 (.ref a1) p1 := isp1.mono (kp_tup k3b)
      have w1 := fok_w1 ok1
      have w4 := fok_w1 ok4
      have l1 : p1.length ≤ 8 := by omega
      refine ⟨.ref a1, rfl, v4, rfl, .ref a1, v4, z, p1, p4, rfl, ispA, isp4, al, ok1, ok4, l1, len4, fun H12 u0 rvs0 R0 s12 hu00 hu0 iR0 cf0 srt0 => ?_⟩
      have tot : totL [p1, p4] ≤ 13 := by
        show p1.length + (p4.length + 0) ≤ 13
        omega
      have few : ∀ {R : List (List Fc)}, CfOk z [p1, p4] R → R.length ≤ 531441 := fun {R} C => by
        refine Nat.le_trans C.few (Nat.le_trans (Nat.pow_le_pow_right (by decide) (?_ : _ ≤ 12)) (by decide))
        show totL [p1, p4] - 1 ≤ 12
        omega
      have rl0 := iR0.len
      have few0 := few cf0
      refine ⟨.ref u0, rfl, u0, rvs0, rfl, .inl (SqL.of hu0), fun lk hlk => ?_⟩
      have sk := same_upd (o := .lst rvs0) hlk
      have gk : (upd H12 lk (.lst rvs0)) lk = some (.lst rvs0) := upd_same
      have gu := sk _ _ hu0
      have ne0 : lk ≠ u0 := fun e => by
        subst e
        exact nomatch hlk.symm.trans hu0
      refine ⟨.ref u0, rfl, .inl ⟨rfl, _, SqL.of gu⟩, u0, _, _, rfl, rfl, gu, by omega, ?_⟩
      have T12 := (T11.same s12).same sk
      have O1 := T11.ne1 hu00
      have O2 := T11.ne2 hu00
      have T13 := T12.upd (o := .lst (rvs0 ++ [V.non])) O1 O2
      have mu : ∀ b xs, SqT K H11 b xs → SqT K (upd (upd H12 lk (.lst rvs0)) u0 (.lst (rvs0 ++ [V.non]))) b xs := fun b xs h => upd_lst gu b xs (same_tup (s12.trans sk) _ _ h)
      have iK : IsL K (upd (upd H12 lk (.lst rvs0)) u0 (.lst (rvs0 ++ [V.non]))) rvs0 R0 := iR0.mono fun b xs h => upd_lst gu b xs (same_tup sk _ _ h)
      have gk2 : (upd (upd H12 lk (.lst rvs0)) u0 (.lst (rvs0 ++ [V.non]))) lk = some (.lst rvs0) := (upd_ne ne0).trans gk
      have ispB := ispA.mono mu
      have ispC := isp4.mono mu
      generalize upd (upd H12 lk (.lst rvs0)) u0 (.lst (rvs0 ++ [V.non])) = H13 at T13 iK gk2 ispB ispC ⊢
      refine ⟨.ref a1, rfl, v4, rfl, .ref a1, v4, z, p1, p4, rfl, ispB, ispC, al, ok1, ok4, l1, len4, fun H14 u rvs R s14 hu0 hu iR cf srt => ?_⟩
      have eR0 : R0 = R := cf_uniq al cf0 cf (fun _ => Iff.rfl) srt0 srt
      subst eR0
      have rl := iR.len
      have kit : PySem.W.kitOne K (.type "list") (.type "list") = some true := kit_ty (by decide +kernel)
      have shp : SeqAt.shaped (.list (R0.map pD)) = true := ps_shaped al fun q hq => (cf.rz q hq).ok
      refine ⟨.ref u, rfl, _, _, _, _, true, rfl, .ty "list", .base (.lst hu), kit, true, rfl, iteF ?_⟩
      refine ⟨v4, rfl, .ref a1, rfl, v4, .ref a1, z, p4, p1, rfl, ispC.mono (same_tup s14), ispB.mono (same_tup s14), al, ok4, ok1, len4, l1, fun H15 u3 rvs3 R3 s15 hu30 hu3 iR3 cf3 srt3 => ?_⟩
      have eR3 : R3 = R0 := cf_uniq al cf3 cf com_swap srt3 srt
      subst eR3
      refine ⟨.ref u, rfl, .list (R3.map pD), .list (R3.map pD), .lst (SqL.of hu3) iR3.dp, .lst (SqL.of (s15 _ _ hu)) (iR.mono (same_tup s15)).dp, shp, shp, ?_⟩
      rw [pl_eqv, decide_eq_true rfl]
      refine ⟨_, rfl, iteF ?_⟩
      refine ⟨.ref u, rfl, .ref lk, rfl, .list (R3.map pD), .list (R3.map pD), .lst (SqL.of (s15 _ _ hu)) (iR.mono (same_tup s15)).dp, .lst (SqL.of (s15 _ _ (s14 _ _ gk2))) (iK.mono (same_tup (s14.trans s15))).dp, shp, shp, ?_⟩
      rw [pl_eqv, decide_eq_true rfl]
      refine ⟨_, rfl, iteF ?_⟩
      have T15 := (T13.same s14).same s15
      have ha := s15 _ _ hu
      have iL := iR.mono (same_tup s15)
      have isp1' := ispB.mono (same_tup (s14.trans s15))
      have isp4' := ispC.mono (same_tup (s14.trans s15))
      have C : Can z R3 := ⟨cf.rz, cf.anti, cf.nd, srt⟩
      have ok : ∀ q ∈ R3, ∀ f ∈ q, FOk z f := fun q hq => (cf.rz q hq).ok
      have rlen : ∀ r ∈ R3, r.length ≤ 27 := fun r hr => by
        have := cf.len r hr
        omega
      -- the written forms
      refine ⟨.ref u, rfl, u, rfl, ⟨_, SqL.of ha⟩, fun O hO => ?_⟩
      refine lc_it (walk_list (xs := rvs)) (fun i H' => H' O = some (.lst (((R3.take i).map pform).map V.str)) ∧ Same H15 H') ⟨upd_same, same_upd hO⟩ (fun _ _ _ ⟨_, s3⟩ => SqL.of (s3 _ _ ha)) ?_ ?_
      · rintro i x G G' hi ⟨gO, s3⟩ ⟨rfl, hx⟩
        obtain ⟨p, hp, isp⟩ := iL.get i x hx
        have pm := List.mem_of_getElem? hp
        refine ⟨rfl, yes ⟨x, rfl, x, p, rfl, isp.mono (same_tup s3), fun f hf => Nat.le_trans (fok_len al (ok p pm f hf)) (by decide), Nat.le_trans (rlen p pm) (by decide), fun G1 t1 => ⟨_, t1 _ _ gO, ?_, ?_, fun b o e => (upd_ne (ne_of_none e hO)).trans ((s3.trans t1) _ _ e)⟩⟩⟩
        · rw [List.length_map, List.length_map, List.length_take, sizeLine_eq]
          omega
        · rw [upd_same, List.take_add_one, hp, List.map_append, List.map_append]
          rfl
      rintro H16 ⟨gO, s16⟩
      rw [rl, List.take_length] at gO
      refine ⟨.ref O, rfl, .ref O, rfl, O, R3.map pform, rfl, SqL.of gO, by rw [List.length_map]; omega, fun ys p pm so hp => ?_⟩
      rw [C.names al pm so]
      have low : ∀ u ∈ R3.map pform, ∀ c ∈ tl u, c < 128 := fun u hu => by
        obtain ⟨q, hq, rfl⟩ := List.mem_map.mp hu
        exact pform_low al (ok q hq)
      refine ⟨strD (R3.map pform), strD (R3.map pform), str_dp (SqL.of (same_upd hp _ _ gO)), str_dp (SqL.of upd_same), str_shaped2 low, str_shaped2 low, ?_⟩
      rw [str_eqv2 low]
      refine ⟨_, rfl, iteF ?_⟩
      have s17 := s16.trans (same_upd (o := .lst ((R3.map pform).map V.str)) hp)
      have ha17 := s17 _ _ ha
      have iL17 := iL.mono (same_tup s17)
      have isp1b := isp1'.mono (same_tup s17)
      have isp4b := isp4'.mono (same_tup s17)
      have T17 := T15.same s17
      generalize upd H16 p (.lst ((R3.map pform).map V.str)) = H17 at s17 ha17 iL17 isp1b isp4b T17 ⊢
      -- each is reduced, and in no other one
      refine ⟨.ref u, rfl, u, rvs, rfl, .inl (SqL.of ha17), (rvs.length : Int), rfl, by omega, by omega, for_it (n := rvs.length) walk_range (fun j σ H' => ∃ y9, σ = [some (.ref a), some (.ref t), some (.int (0 + (i : Int))), some (.str z), some (.ref a1), some v4, some (.ref u), some (.ref lk), some (.ref O), y9, y10, y11, none, none, none] ∧ Same H17 H') ⟨_, rfl, Same.refl _⟩ (fun _ _ _ _ _ => trivial) ?_ ?_⟩
      · rintro j x σ M M' hj ⟨z9, rfl, sm⟩ ⟨rfl, rfl⟩
        obtain ⟨x1, e1⟩ : ∃ x1, rvs[j]? = some x1 := ⟨_, List.getElem?_eq_getElem hj⟩
        obtain ⟨p, hp, isp⟩ := iL17.get j x1 e1
        have pm := List.mem_of_getElem? hp
        have ha1 := sm _ _ ha17
        have okp := ok p pm
        refine ⟨.ref u, rfl, .int (0 + (j : Int)), rfl, u, rvs, _, x1, rfl, rfl, SqL.of ha1, at_cp (j := j) (by omega) e1, x1, p, rfl, isp.mono (same_tup sm), fun f hf => Nat.le_trans (fok_len al (okp f hf)) (by decide), Nat.le_trans (rlen p pm) (by decide), fun M1 w t1 isw => ?_⟩
        rw [red_id (C.rz p pm).ap] at isw
        have s1 := sm.trans t1
        refine ⟨.ref u, rfl, .int (0 + (j : Int)), rfl, u, rvs, _, x1, rfl, rfl, SqL.of (s1 _ _ ha17), at_cp (j := j) (by omega) e1, pD p, pD p, isw.dp, (isp.mono (same_tup s1)).dp, pD_shaped al okp, pD_shaped al okp, ?_⟩
        rw [pD_eqv, decide_eq_true rfl]
        refine ⟨_, rfl, iteF ?_⟩
        have ha2 := s1 _ _ ha17
        refine ⟨.ref u, rfl, .int (0 + (j : Int)), rfl, 0 + (j : Int), rfl, u, rvs, rfl, SqL.of ha2, fun p1 n1 => ?_⟩
        have t1 := same_upd (o := .lst (cutV rvs none (some (0 + (j : Int))))) n1
        refine ⟨.ref u, rfl, .int (0 + (j : Int)), rfl, _, _, rfl, rfl, 0 + (j : Int) + 1, rfl, u, rvs, rfl, SqL.of (t1 _ _ ha2), fun p2 n2 => ?_⟩
        have t2 := same_upd (o := .lst (cutV rvs (some (0 + (j : Int) + 1)) none)) n2
        have c1 : cutV rvs none (some (0 + (j : Int))) = rvs.take j := by
          rw [cut_take rvs (by omega) (by omega)]
          congr 1
          omega
        have c2 : cutV rvs (some (0 + (j : Int) + 1)) none = rvs.drop (j + 1) := by
          rw [cut_drop rvs (by omega)]
          congr 1
          omega
        refine ⟨p1, p2, _, _, rfl, rfl, t2 _ _ upd_same, upd_same, ?_, fun p3 n3 => ?_⟩
        · rw [c1, c2, List.length_take, List.length_drop, sizeLine_eq]
          omega
        have t3 := same_upd (o := .lst (cutV rvs none (some (0 + (j : Int))) ++ cutV rvs (some (0 + (j : Int) + 1)) none)) n3
        have tt := ((s1.trans t1).trans t2).trans t3
        have g3 : (upd (upd (upd M1 p1 (.lst (cutV rvs none (some (0 + (j : Int)))))) p2 (.lst (cutV rvs (some (0 + (j : Int) + 1)) none))) p3 (.lst (cutV rvs none (some (0 + (j : Int))) ++ cutV rvs (some (0 + (j : Int) + 1)) none))) p3 = some (.lst (rvs.take j ++ rvs.drop (j + 1))) := by rw [upd_same, c1, c2]
        generalize upd (upd (upd M1 p1 (.lst (cutV rvs none (some (0 + (j : Int)))))) p2 (.lst (cutV rvs (some (0 + (j : Int) + 1)) none))) p3 (.lst (cutV rvs none (some (0 + (j : Int))) ++ cutV rvs (some (0 + (j : Int) + 1)) none)) = N0 at tt g3 ⊢
        have iN := (((iL17.mono (same_tup tt)).take j).app ((iL17.mono (same_tup tt)).drop (j + 1)))
        refine ⟨p3, rfl, ⟨_, SqL.of g3⟩, fun L hL => ?_⟩
        refine lc_it (walk_list (xs := rvs.take j ++ rvs.drop (j + 1))) (fun q H' => H' L = some (.lst []) ∧ Same N0 H') ⟨upd_same, same_upd hL⟩ (fun _ _ _ ⟨_, sm⟩ => SqL.of (sm _ _ g3)) ?_ ?_
        · rintro q y O' O'' hq ⟨gL, so'⟩ ⟨rfl, hy⟩
          obtain ⟨r, hr, isr⟩ := iN.get q y hy
          have rm := List.mem_of_getElem? hr
          have rR : r ∈ R3 := by
            rcases List.mem_append.mp rm with e | e
            · exact List.mem_of_mem_take e
            · exact List.mem_of_mem_drop e
          have no : inc r p = false := by
            have := List.any_eq_false.mp (C.rest hp) r rm
            simpa using this
          have tq := tt.trans so'
          refine ⟨rfl, .ref u, rfl, .int (0 + (j : Int)), rfl, u, rvs, _, x1, rfl, rfl, SqL.of (tq _ _ ha17), at_cp (j := j) (by omega) e1, y, rfl, x1, y, p, r, rfl, isp.mono (same_tup tq), isr.mono (same_tup so'), lw okp, lw (ok r rR), fun O1 o1 => ?_⟩
          rw [no]
          exact ⟨_, rfl, iteF ⟨o1 _ _ gL, so'.trans o1⟩⟩
        rintro O' ⟨gL, so'⟩
        refine ⟨by show 0 ≤ sizeLine; decide, fun l3 hl3 => ?_⟩
        have s3 := same_upd (o := .lst []) hl3
        refine ⟨.list [], .list [], .lst (SqL.of (s3 _ _ gL)) .nil, .lst (SqL.of upd_same) .nil, nil_shaped, nil_shaped, ?_⟩
        rw [eqv_nil]
        exact ⟨_, rfl, iteF ⟨_, rfl, (tt.trans so').trans s3⟩⟩
      rintro σ2 H18 ⟨z9, rfl, s18⟩
      -- short words
      refine ⟨.str z, rfl, z, 4, rfl, al, by decide, by decide, fun H19 lq ws s19 nlq hlq hws wl => ?_⟩
      have s1719 := s18.trans s19
      refine ⟨lq, rfl, ⟨_, SqL.of hlq⟩, for_it (walk_list (xs := ws.map V.str)) (fun j σ H' => ∃ y10 y11, σ = [some (.ref a), some (.ref t), some (.int (0 + (i : Int))), some (.str z), some (.ref a1), some v4, some (.ref u), some (.ref lk), some (.ref O), z9, y10, y11, none, none, none] ∧ Same H19 H') ⟨_, _, rfl, Same.refl _⟩ (fun _ _ _ _ ⟨_, _, _, sm⟩ => SqL.of (sm _ _ hlq)) ?_ ?_⟩
      · rintro j x σ M M' hj ⟨z10, z11, rfl, sm⟩ ⟨rfl, hx⟩
        obtain ⟨y, hy, rfl⟩ : ∃ u, ws[j]? = some u ∧ x = V.str u := by
          rw [List.getElem?_map] at hx
          cases q : ws[j]? with
          | none => rw [q] at hx; cases hx
          | some u => rw [q] at hx; exact ⟨u, rfl, (Option.some.inj hx).symm⟩
        obtain ⟨yl, yo⟩ := hws y (List.mem_of_getElem? hy)
        have sM := s1719.trans sm
        have ylen : (tl y).length ≤ 100000 := by omega
        refine ⟨.ref a1, rfl, .str y, rfl, .ref a1, p1, y, rfl, isp1b.mono (same_tup sM), ylen, fun N1 d1 n1 hd1 => ⟨_, rfl, ite2 (fun e1 => ⟨v4, rfl, .str y, rfl, v4, p4, y, rfl, isp4b.mono (same_tup (sM.trans n1)), ylen, fun N2 d2 n2 hd2 => ?_⟩) (fun e1 => ?_)⟩⟩
        · have sN := (sM.trans n1).trans n2
          refine ⟨.ref u, rfl, .str y, rfl, u, z, y, rvs, R3, rfl, SqL.of (sN _ _ ha17), iL17.mono (same_tup sN), al, ok, by omega, ylen, fun N3 d3 n3 hd3 => ?_⟩
          have ed : d3 = d2 := by
            rw [Bool.eq_iff_iff, hd3, cf.lang (tl y), hd2]
            exact ⟨fun h => h p4 (List.mem_cons_of_mem _ List.mem_cons_self), fun h q hq => by
              simp only [List.mem_cons, List.not_mem_nil, or_false] at hq
              rcases hq with h' | h'
              · rw [h']; exact hd1.mp e1
              · rw [h']; exact h⟩
          refine ⟨.bl d2, rfl, rfl, _, rfl, ?_⟩
          rw [ed, decide_eq_true rfl]
          exact iteF ⟨_, _, rfl, sm.trans ((n1.trans n2).trans n3)⟩
        · have sN := sM.trans n1
          refine ⟨.ref u, rfl, .str y, rfl, u, z, y, rvs, R3, rfl, SqL.of (sN _ _ ha17), iL17.mono (same_tup sN), al, ok, by omega, ylen, fun N3 d3 n3 hd3 => ?_⟩
          have ed : d3 = false := by
            rw [Bool.eq_false_iff]
            intro h
            exact e1 (hd1.mpr ((cf.lang (tl y)).mp (hd3.mp h) p1 List.mem_cons_self))
          refine ⟨.bl false, rfl, rfl, _, rfl, ?_⟩
          rw [ed, decide_eq_true rfl]
          exact iteF ⟨_, _, rfl, sm.trans (n1.trans n3)⟩
      rintro σ3 H20 ⟨z10, z11, rfl, s20⟩
      exact ⟨_, _, _, _, _, _, _, _, _, _, rfl, (T17.same (s1719.trans s20)).mono (by omega)⟩
    · rintro σ H' ⟨y2, y3, y4, y5, y6, y7, y8, y9, y10, y11, rfl, T⟩
      have sz := sx
      refine ⟨by show 2 ≤ sizeLine; decide, fun bt hbt => ⟨by show 1 ≤ sizeLine; decide, fun bl hbl => ?_⟩⟩
      have q1 := same_upd (o := .tup [V.str "opt", V.str "a"]) hbt
      have q2 := same_upd (o := .lst [V.ref bt]) hbl
      refine ⟨bl, 8, _, rfl, rfl, upd_same, by decide, by decide, by show 1 * 8 ≤ sizeLine; decide, fun bf hbf => ?_⟩
      have q3 := same_upd (o := .lst (List.replicate (8 : Int).toNat [V.ref bt]).flatten) hbf
      have gF : (upd (upd (upd H' bt (.tup [V.str "opt", V.str "a"])) bl (.lst [V.ref bt])) bf (.lst (List.replicate (8 : Int).toNat [V.ref bt]).flatten)) bf = some (.lst (List.replicate 8 (V.ref bt))) := upd_same
      have tF : SqT K (upd (upd (upd H' bt (.tup [V.str "opt", V.str "a"])) bl (.lst [V.ref bt])) bf (.lst (List.replicate (8 : Int).toNat [V.ref bt]).flatten)) bt [V.str "opt", V.str "a"] := SqT.of (q3 _ _ (q2 _ _ upd_same))
      have TF := ((T.same q1).same q2).same q3
      generalize upd (upd (upd H' bt (.tup [V.str "opt", V.str "a"])) bl (.lst [V.ref bt])) bf (.lst (List.replicate (8 : Int).toNat [V.ref bt]).flatten) = N0 at gF tF TF ⊢
      have iFF : ∀ n, IsFs K N0 (List.replicate n (V.ref bt)) (List.replicate n ((false, "a") : Fc)) := fun n => by
        induction n with
        | zero => exact .nil
        | succ n ih => exact .cons ⟨bt, rfl, tF⟩ ih
      have alab : Alph "ab" := by unfold Alph; decide +kernel
      have okA : ∀ b, FOk "ab" (b, "a") := fun b => by
        refine ⟨?_, ?_, fun _ => ?_⟩
        · show tl "a" ≠ []
          decide +kernel
        · show (tl "a").Sublist (tl "ab")
          decide +kernel
        · show (tl "a").length = 1
          decide +kernel
      have okR : ∀ n, ∀ f ∈ List.replicate n ((false, "a") : Fc), FOk "ab" f := fun n f hf => by
        rw [List.eq_of_mem_replicate hf]
        exact okA _
      refine ⟨.ref bf, rfl, bf, _, rfl, .inl ⟨SqL.of gF, fun T1 hT1 => ?_⟩⟩
      have r1 := same_upd (o := .tup (List.replicate 8 (V.ref bt))) hT1
      refine ⟨.ref bf, rfl, 2, rfl, bf, _, rfl, SqL.of (r1 _ _ gF), fun c1 hc1 => ?_⟩
      have r2 := same_upd (o := .lst (cutV (List.replicate 8 (V.ref bt)) none (some 2))) hc1
      refine ⟨c1, _, rfl, .inl ⟨SqL.of upd_same, fun T2 hT2 => ?_⟩⟩
      have r3 := same_upd (o := .tup (cutV (List.replicate 8 (V.ref bt)) none (some 2))) hT2
      have r13 := (r1.trans r2).trans r3
      refine ⟨.ref T1, .ref T2, "ab", List.replicate 8 (false, "a"), List.replicate 2 (false, "a"), rfl, ⟨T1, _, rfl, SqT.of (r3 _ _ (r2 _ _ upd_same)), (iFF 8).mono (same_tup r13)⟩, ⟨T2, _, rfl, SqT.of upd_same, ?_⟩, alab, okR 8, okR 2, by decide, by decide, fun _ _ N1 n1 => ?_, fun h => by rcases h with h | h <;> (rw [List.length_replicate] at h; omega)⟩
      · rw [show cutV (List.replicate 8 (V.ref bt)) none (some 2) = List.replicate 2 (V.ref bt) from cut_first _ 2]
        exact (iFF 2).mono (same_tup r13)
      refine ⟨rfl, _, rfl, iteF ?_⟩
      have s1 := r13.trans n1
      have gF1 := s1 _ _ gF
      have TF1 := TF.same s1
      refine ⟨.ref bf, rfl, bf, _, rfl, .inl ⟨SqL.of gF1, fun T3 hT3 => ?_⟩⟩
      have u1 := same_upd (o := .tup (List.replicate 8 (V.ref bt))) hT3
      have g3 : SqT K (upd N1 T3 (.tup (List.replicate 8 (V.ref bt)))) T3 (List.replicate 8 (V.ref bt)) := SqT.of upd_same
      have iF3 := ((iFF 8).mono (same_tup s1)).mono (same_tup u1)
      refine ⟨.ref t, rfl, t, c, _, "ab", rfl, TF1.same u1, by omega, alab, fun N2 vf f k2 T2' isf fok => ?_⟩
      refine ⟨by show 1 ≤ sizeLine; decide, fun T4 hT4 => ?_⟩
      have u2 := same_upd (o := .tup [vf]) hT4
      refine ⟨.ref t, rfl, t, c, 4, _, rfl, T2'.same u2, by omega, by decide, by decide, fun N3 r k3 T3' r0 r1 => ?_⟩
      refine ⟨_, _, rfl, rfl, T4, 1 + r, [vf], rfl, rfl, k3.tup (SqT.of upd_same), by simp, by omega, by omega, by show 1 ≤ 1000; decide, fun N4 p5 s5 h5 => ?_⟩
      have k14 : Kp t (upd N1 T3 (.tup (List.replicate 8 (V.ref bt)))) N4 := ((k2.trans (T2'.kp u2)).trans k3).trans (T3'.kp s5)
      have el : (List.replicate (1 + r).toNat [vf]).flatten = List.replicate (1 + r).toNat vf := by simp
      rw [el] at h5
      refine cat_any (k14.tup g3) h5 (by rw [List.length_replicate, List.length_replicate]; omega) fun N5 p6 s6 h6 => ?_
      have isf5 := (((isf.mono (same_tup u2)).mono (kp_tup k3)).mono (same_tup s5)).mono (same_tup s6)
      have iRep : ∀ n, IsFs K N5 (List.replicate n vf) (List.replicate n f) := fun n => by
        induction n with
        | zero => exact .nil
        | succ n ih => exact .cons isf5 ih
      have ispL : IsP K N5 (.ref p6) (List.replicate 8 ((false, "a") : Fc) ++ List.replicate (1 + r).toNat f) := ⟨p6, _, rfl, h6, ((iF3.mono (kp_tup k14)).mono (same_tup s6)).app (iRep _)⟩
      have okL : ∀ g ∈ List.replicate 8 ((false, "a") : Fc) ++ List.replicate (1 + r).toNat f, FOk "ab" g := fun g hg => by
        rcases List.mem_append.mp hg with h | h
        · exact okR 8 g h
        · rw [List.eq_of_mem_replicate h]
          exact fok
      have lenL : (List.replicate 8 ((false, "a") : Fc) ++ List.replicate (1 + r).toNat f).length = 8 + (1 + r).toNat := by
        rw [List.length_append, List.length_replicate, List.length_replicate]
      generalize List.replicate 8 ((false, "a") : Fc) ++ List.replicate (1 + r).toNat f = long at ispL okL lenL
      refine ⟨.ref p6, rfl, by show 0 ≤ sizeLine; decide, fun e0 he0 => ?_⟩
      have u5 := same_upd (o := .tup []) he0
      refine ⟨.ref p6, .ref e0, "ab", long, [], rfl, ispL.mono (same_tup u5), ⟨e0, _, rfl, SqT.of upd_same, .nil⟩, alab, okL, fun f hf => (nomatch hf), by omega, by decide, fun h => by omega, fun _ N6 n6 => ?_⟩
      refine ⟨rfl, _, rfl, ?_⟩
      rw [decide_eq_true rfl]
      refine iteT ⟨by show 2 ≤ sizeLine; decide, fun b1 hb1 => ⟨by show 1 ≤ sizeLine; decide, fun b2 hb2 => ?_⟩⟩
      have u6 := same_upd (o := .tup [V.str "star", V.str "a"]) hb1
      have u7 := same_upd (o := .tup [V.ref b1]) hb2
      refine ⟨.ref p6, rfl, .ref b2, .ref p6, "ab", [(true, "a")], long, rfl, ⟨b2, _, rfl, SqT.of upd_same, .cons ⟨b1, rfl, SqT.of (u7 _ _ upd_same)⟩ .nil⟩, ispL.mono (same_tup (((u5.trans n6).trans u6).trans u7)), alab, fun f hf => by rw [List.mem_singleton.mp hf]; exact okA _, okL, by decide, by omega, fun _ h => by omega, fun _ N7 n7 => ?_⟩
      refine ⟨rfl, ?_⟩
      rw [decide_eq_true rfl]
      exact k _
end
end DW
set_option maxHeartbeats 0
namespace DW
open PySem PySem.Spec PyProof.Rows L2
theorem df {K : PySem.W.Frag} {h : Heap} {mg : Str → Option Value} {x : Str} {st : Stmt} {ps : List Str} (X : K.In h) (G : h.Ns mainGlobals mg) (hf : ∃ fd, FunD K x x (defArgs st) (defBody st) (defScope st) [] [] (He.fAd K (x, none)) fd) (hg : (He.Fa.glo x).ok K = true)
    (b : ∀ (kV doc pm : Value) (an : Option Addr) (cdv ct : Value) (us : List Value), us.length = ps.length → bindArgs (PySem.W.fnOf x x (defArgs st) (defBody st) (defScope st) .none kV doc pm an cdv ct) ⟨us, []⟩ = pure (ps.zip us)) :
    ∃ D : Df K mg x st ps, D.f = He.fAd K (x, none) := by
  obtain ⟨fd, F⟩ := hf
  exact ⟨⟨He.fAd K (x, none), fd, F, He.glo_ok X G hg, F.bindsN b⟩, rfl⟩
theorem facts {w : World} {K : PySem.W.Frag} {h : Heap} {mg : Str → Option Value} {f : Addr} (X : K.In h) (G : h.Ns mainGlobals mg) (hfa : mg ("law" : Str) = some (.ref f)) (cx : EX.SaysX R.prog fa fn xs K) :
    ∃ fd : FuncData, (∀ (s : Shared) (v : Value), BindsTo s fd ⟨[v], []⟩ [("_law_script", v)]) ∧ ∀ base : Heap, K.In base → base.Ns mainGlobals mg → FnOk R.prog w K mg base CX0 27 f fd ["_law_script"] (spLaw K) := by
  have c := cx.d
  have e := hfa.symm.trans (He.glo_ok X G (c.fact 0 (f := .glo "law") rfl))
  cases e
  obtain ⟨D0, e0⟩ := df (st := sLaw) (ps := ["_law_script"]) X G (c.def_ 0 (d := mkD "law" sLaw) rfl) (c.fact 0 (f := .glo "law") rfl) fun _ _ _ _ _ _ us hl => match us, hl with | [_], _ => rfl
  obtain ⟨D1, e1⟩ := df (st := sFormatFactor) (ps := ["factor"]) X G (c.def_ 1 (d := mkD "format_factor" sFormatFactor) rfl) (c.fact 1 (f := .glo "format_factor") rfl) fun _ _ _ _ _ _ us hl => match us, hl with | [_], _ => rfl
  obtain ⟨D2, e2⟩ := df (st := sFormatProduct) (ps := ["product"]) X G (c.def_ 2 (d := mkD "format_product" sFormatProduct) rfl) (c.fact 2 (f := .glo "format_product") rfl) fun _ _ _ _ _ _ us hl => match us, hl with | [_], _ => rfl
  obtain ⟨D3, e3⟩ := df (st := sLettersOf) (ps := ["factors"]) X G (c.def_ 3 (d := mkD "letters_of" sLettersOf) rfl) (c.fact 3 (f := .glo "letters_of") rfl) fun _ _ _ _ _ _ us hl => match us, hl with | [_], _ => rfl
  obtain ⟨D4, e4⟩ := df (st := sSwallows) (ps := ["factor", "other"]) X G (c.def_ 4 (d := mkD "swallows" sSwallows) rfl) (c.fact 4 (f := .glo "swallows") rfl) fun _ _ _ _ _ _ us hl => match us, hl with | [_, _], _ => rfl
  obtain ⟨D5, e5⟩ := df (st := sCovers) (ps := ["factor", "other"]) X G (c.def_ 5 (d := mkD "covers" sCovers) rfl) (c.fact 5 (f := .glo "covers") rfl) fun _ _ _ _ _ _ us hl => match us, hl with | [_, _], _ => rfl
  obtain ⟨D6, e6⟩ := df (st := sReduceProduct) (ps := ["product"]) X G (c.def_ 6 (d := mkD "reduce_product" sReduceProduct) rfl) (c.fact 6 (f := .glo "reduce_product") rfl) fun _ _ _ _ _ _ us hl => match us, hl with | [_], _ => rfl
  obtain ⟨D7, e7⟩ := df (st := sBehind) (ps := ["product", "place"]) X G (c.def_ 7 (d := mkD "behind" sBehind) rfl) (c.fact 7 (f := .glo "behind") rfl) fun _ _ _ _ _ _ us hl => match us, hl with | [_, _], _ => rfl
  obtain ⟨D8, e8⟩ := df (st := sPlaceBehind) (ps := ["product", "other", "start"]) X G (c.def_ 8 (d := mkD "place_behind" sPlaceBehind) rfl) (c.fact 8 (f := .glo "place_behind") rfl) fun _ _ _ _ _ _ us hl => match us, hl with | [_, _, _], _ => rfl
  obtain ⟨D9, e9⟩ := df (st := sIsIncluded) (ps := ["product", "other"]) X G (c.def_ 9 (d := mkD "is_included" sIsIncluded) rfl) (c.fact 9 (f := .glo "is_included") rfl) fun _ _ _ _ _ _ us hl => match us, hl with | [_, _], _ => rfl
  obtain ⟨D10, e10⟩ := df (st := sSubwordsProduct) (ps := ["word"]) X G (c.def_ 10 (d := mkD "subwords_product" sSubwordsProduct) rfl) (c.fact 10 (f := .glo "subwords_product") rfl) fun _ _ _ _ _ _ us hl => match us, hl with | [_], _ => rfl
  obtain ⟨D11, e11⟩ := df (st := sStarProduct) (ps := ["letters"]) X G (c.def_ 11 (d := mkD "star_product" sStarProduct) rfl) (c.fact 11 (f := .glo "star_product") rfl) fun _ _ _ _ _ _ us hl => match us, hl with | [_], _ => rfl
  obtain ⟨D12, e12⟩ := df (st := sByWrittenForm) (ps := ["products"]) X G (c.def_ 12 (d := mkD "by_written_form" sByWrittenForm) rfl) (c.fact 12 (f := .glo "by_written_form") rfl) fun _ _ _ _ _ _ us hl => match us, hl with | [_], _ => rfl
  obtain ⟨D13, e13⟩ := df (st := sInFront) (ps := ["factor", "product"]) X G (c.def_ 13 (d := mkD "in_front" sInFront) rfl) (c.fact 13 (f := .glo "in_front") rfl) fun _ _ _ _ _ _ us hl => match us, hl with | [_, _], _ => rfl
  obtain ⟨D14, e14⟩ := df (st := sPlacesBehind) (ps := ["product", "others", "places"]) X G (c.def_ 14 (d := mkD "places_behind" sPlacesBehind) rfl) (c.fact 14 (f := .glo "places_behind") rfl) fun _ _ _ _ _ _ us hl => match us, hl with | [_, _, _], _ => rfl
  obtain ⟨D15, e15⟩ := df (st := sPlacesByLetter) (ps := ["products", "places"]) X G (c.def_ 15 (d := mkD "places_by_letter" sPlacesByLetter) rfl) (c.fact 15 (f := .glo "places_by_letter") rfl) fun _ _ _ _ _ _ us hl => match us, hl with | [_, _], _ => rfl
  obtain ⟨D16, e16⟩ := df (st := sBranchOf) (ps := ["letter", "stay", "rests"]) X G (c.def_ 16 (d := mkD "branch_of" sBranchOf) rfl) (c.fact 16 (f := .glo "branch_of") rfl) fun _ _ _ _ _ _ us hl => match us, hl with | [_, _, _], _ => rfl
  obtain ⟨D17, e17⟩ := df (st := sIsInLargerBranch) (ps := ["product", "start", "products", "steps", "branches"]) X G (c.def_ 17 (d := mkD "is_in_larger_branch" sIsInLargerBranch) rfl) (c.fact 17 (f := .glo "is_in_larger_branch") rfl) fun _ _ _ _ _ _ us hl => match us, hl with | [_, _, _, _, _], _ => rfl
  obtain ⟨D18, e18⟩ := df (st := sJoinBranches) (ps := ["products", "steps", "branches"]) X G (c.def_ 18 (d := mkD "join_branches" sJoinBranches) rfl) (c.fact 18 (f := .glo "join_branches") rfl) fun _ _ _ _ _ _ us hl => match us, hl with | [_, _, _], _ => rfl
  obtain ⟨D19, e19⟩ := df (st := sCommonFrom) (ps := ["products", "places", "table"]) X G (c.def_ 19 (d := mkD "common_from" sCommonFrom) rfl) (c.fact 19 (f := .glo "common_from") rfl) fun _ _ _ _ _ _ us hl => match us, hl with | [_, _, _], _ => rfl
  obtain ⟨D20, e20⟩ := df (st := sCommonProducts) (ps := ["products"]) X G (c.def_ 20 (d := mkD "common_products" sCommonProducts) rfl) (c.fact 20 (f := .glo "common_products") rfl) fun _ _ _ _ _ _ us hl => match us, hl with | [_], _ => rfl
  obtain ⟨D21, e21⟩ := df (st := sCommonPart) (ps := ["product", "other"]) X G (c.def_ 21 (d := mkD "common_part" sCommonPart) rfl) (c.fact 21 (f := .glo "common_part") rfl) fun _ _ _ _ _ _ us hl => match us, hl with | [_, _], _ => rfl
  obtain ⟨D22, e22⟩ := df (st := sBegin) (ps := ["_law_script"]) X G (c.def_ 22 (d := mkD "_law_begin" sBegin) rfl) (c.fact 22 (f := .glo "_law_begin") rfl) fun _ _ _ _ _ _ us hl => match us, hl with | [_], _ => rfl
  obtain ⟨D23, e23⟩ := df (st := sDraw) (ps := ["_law_tape", "_law_many"]) X G (c.def_ 23 (d := mkD "_law_draw" sDraw) rfl) (c.fact 23 (f := .glo "_law_draw") rfl) fun _ _ _ _ _ _ us hl => match us, hl with | [_, _], _ => rfl
  obtain ⟨D24, e24⟩ := df (st := sPick) (ps := ["_law_tape", "_law_items"]) X G (c.def_ 24 (d := mkD "_law_pick" sPick) rfl) (c.fact 24 (f := .glo "_law_pick") rfl) fun _ _ _ _ _ _ us hl => match us, hl with | [_, _], _ => rfl
  obtain ⟨D25, e25⟩ := df (st := sAlpha) (ps := ["_law_tape"]) X G (c.def_ 25 (d := mkD "_law_alphabet" sAlpha) rfl) (c.fact 25 (f := .glo "_law_alphabet") rfl) fun _ _ _ _ _ _ us hl => match us, hl with | [_], _ => rfl
  obtain ⟨D26, e26⟩ := df (st := sFactor) (ps := ["_law_tape", "_law_alphabet_here"]) X G (c.def_ 26 (d := mkD "_law_factor" sFactor) rfl) (c.fact 26 (f := .glo "_law_factor") rfl) fun _ _ _ _ _ _ us hl => match us, hl with | [_, _], _ => rfl
  obtain ⟨D27, e27⟩ := df (st := sProduct) (ps := ["_law_tape", "_law_alphabet_here", "_law_longest"]) X G (c.def_ 27 (d := mkD "_law_product" sProduct) rfl) (c.fact 27 (f := .glo "_law_product") rfl) fun _ _ _ _ _ _ us hl => match us, hl with | [_, _, _], _ => rfl
  obtain ⟨D28, e28⟩ := df (st := sLWords) (ps := ["_law_alphabet_here", "_law_longest"]) X G (c.def_ 28 (d := mkD "_law_words" sLWords) rfl) (c.fact 28 (f := .glo "_law_words") rfl) fun _ _ _ _ _ _ us hl => match us, hl with | [_, _], _ => rfl
  obtain ⟨D29, e29⟩ := df (st := sLInProduct) (ps := ["_law_product_here", "_law_word"]) X G (c.def_ 29 (d := mkD "_law_in_product" sLInProduct) rfl) (c.fact 29 (f := .glo "_law_in_product") rfl) fun _ _ _ _ _ _ us hl => match us, hl with | [_, _], _ => rfl
  obtain ⟨D30, e30⟩ := df (st := sLIn) (ps := ["_law_products", "_law_word"]) X G (c.def_ 30 (d := mkD "_law_in" sLIn) rfl) (c.fact 30 (f := .glo "_law_in") rfl) fun _ _ _ _ _ _ us hl => match us, hl with | [_, _], _ => rfl
  obtain ⟨D31, e31⟩ := df (st := sLLimit) (ps := ["_law_product_here", "_law_other"]) X G (c.def_ 31 (d := mkD "_law_limit" sLLimit) rfl) (c.fact 31 (f := .glo "_law_limit") rfl) fun _ _ _ _ _ _ us hl => match us, hl with | [_, _], _ => rfl
  have msup : mg "super" = none := He.free_ok X G (c.fact 43 (f := .free "super") rfl)
  obtain ⟨Y0, qy0⟩ := EX.mkE (ok := EX.MsgOk) X G (cx.ini 0).2 (cx.ini 0).1 (by decide +kernel) (fun F doc pm ctv us h1 h2 h3 h4 h5 hl => by
      obtain ⟨n1, n2, n3, n4, n5, n6, n7⟩ := F
      dsimp only at h1 h2 h3 h4 h5
      subst h1 h2 h3 h4 h5
      match us, hl with
      | [_, _], _ => rfl) (fun F cc oc doc pm ctv od osl w base h1 h2 h3 Sp lk no => by
      obtain ⟨n1, n2, n3, n4, n5, n6, n7⟩ := F
      dsimp only at h1 h2 h3
      subst h1 h2 h3
      exact EX.init_f Sp lk msup (NdefX.nscope_by (show NdefX.nscB _ _ _ (defScope (clsS 2 0)) = true by decide +kernel)) no rfl (by decide +kernel) rfl rfl rfl (by decide) (by decide) (fun L => rfl))
  have km0 : PySem.W.exmOne K (.ref Y0.C) (.ref Y0.C) = some true := by rw [qy0]; exact cx.exm 0
  have b := FunD.bindsA (ps := ["_law_script"]) D0.F fun _ _ _ _ _ _ us hl => match us, hl with | [_], _ => rfl
  refine ⟨D0.fd, fun s v => b s [v] rfl, fun base _ _ => ?_⟩
  have q := ok_law (P := R.prog) (w := w) (base := base) D0 ⟨D1, D2, D3, D4, D5, D6, D7, D8, D9, D10, D11, D12, D13, D14, D15, D16, D17, D18, D19, D20, D21, D22, D23, D24, D25, D26, D27, D28, D29, D30, D31, ⟨He.free_ok X G (c.fact 32 (f := .free "len") rfl), He.free_ok X G (c.fact 39 (f := .free "range") rfl), He.free_ok X G (c.fact 33 (f := .free "sorted") rfl), He.free_ok X G (c.fact 34 (f := .free "set") rfl)⟩, He.free_ok X G (c.fact 35 (f := .free "all") rfl), He.free_ok X G (c.fact 36 (f := .free "tuple") rfl), He.free_ok X G (c.fact 37 (f := .free "zip") rfl), He.free_ok X G (c.fact 38 (f := .free "list") rfl), He.free_ok X G (c.fact 40 (f := .free "isinstance") rfl), He.int_ok X G (c.fact 41 (f := .int "COMMON_PART_LIMIT" 8) rfl), He.str_ok X G (c.fact 42 (f := .str "EMPTY_FORM" "-") rfl), Y0, km0⟩
  rw [e0] at q
  exact q
end DW
open PySem PySem.W PySem.Calls PyProof.Rows
theorem PySem.Challenge.cw_downwords_k12_common_parts_holds : PySem.Challenge.rw_downwords_k12_common_parts.Holds := by
  w_on; o_law
  refine HandSHeadRun.head_any (r := OpenLaw.row PySem.Challenge.rw_downwords_k12_common_parts) (q := view (OpenLaw.row PySem.Challenge.rw_downwords_k12_common_parts).prog [38]) (H := DW.hk) (ob := DW.ob) (M := 4000) (loose := DW.names) (d := HandSHeadRun.topDef (OpenLaw.row PySem.Challenge.rw_downwords_k12_common_parts).prog 38) (kwd := []) DW.ob_eq
    (by kernel_rfl) (fun s => by kernel_rfl) DW.run (by kernel_rfl) (by kernel_rfl) (by kernel_rfl) (by rfl) (by first | assumption | decide +kernel) (by decide +kernel) ⟨rfl, rfl, rfl, rfl, rfl, by decide +kernel⟩ ?hw ?hc
  case hw => w_witness2
  case hc =>
    refine L2.walk_ofE (l := PySem.Challenge.rw_downwords_k12_common_parts) (n := 63) (k := 27) (x := "_law_script") (CX := L2.CX0) rfl (by decide) (by kernel_rfl) ⟨rfl, by decide, by decide⟩ ?F (fun _ _ _ _ z => z)
    intro w mg fa h Y G hmg0
    obtain ⟨K, KX, c⟩ := Y
    have hmg : mg ("law" : PySem.Str) = some (.ref fa) := by
      have e : (HandSHeadRun.topDef (OpenLaw.row PySem.Challenge.rw_downwords_k12_common_parts).prog 38).name = ("law" : PySem.Str) := by kernel_rfl
      rw [← e]
      exact hmg0
    obtain ⟨fd, hb, hF⟩ := DW.facts (w := w) KX G hmg c
    exact ⟨K, fd, DW.spLaw K, KX, hb, fun H a ns hl _ hS => ⟨a, ns, rfl, hS, fun _ => rfl⟩, hF⟩
