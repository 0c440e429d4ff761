import PyProof.Rows.All
import Wide.All
import OpenK.AllK
import Wide.FinOn
import HandS.List
import HandS.SetTxt0
import HandS.SetFor
import HandS.Strs
import HandS.Iter
import HandS.Walk
import KE.GoesMore
import KE.GoesZip
import HandS.Text
import PyProof.ListStr
import KE.KRevSl
import HandS.ForMost
import PyProof.FString2
import KE.KExcSuper
import HandS.Nested
import HandS.Exc
import HandS.ExcOwn
import HandS.ExcInit
import KE.KExcIs
import HandS.FStr
import HandS.ExcField
import HandS.HeadHook1
import HandS.HeadHook2
import HandS.StrMore
import PyProof.StrLawsIn
import HandS.Flow
import HandS.Small
import HandS.Codes
import HandS.Defaults
import HandS.WordsExc
import HandS.RaiseMore
import HandS.Conv
import HandS.IsInst
import HandS.RevRange
import HandS.NoneIn
import HandS.TupAny
import HandS.Replace
import HandS.Style
import KE.KStateDown
import Lean
import HandS.More
import HandS.Head0
import HandS.Head1
import HandS.Head2
import HandS.HeadEnd
import PySem.Challenge.RW_downwords_k06_written_products
set_option Elab.async false
set_option linter.all false
set_option maxRecDepth 100000
set_option maxHeartbeats 2000000
/-! Sets of texts: set(list of texts), set(text), sorted(set). -/
namespace TX
open PySem PySem.Spec PyProof.Rows L2 PySem.Froz

/-! ### lists -/
theorem perm_of_sub {α : Type} [DecidableEq α] : ∀ (l ks : List α), l.Nodup → (∀ x ∈ l, x ∈ ks) → ks.length ≤ l.length → ks.Perm l
  | [], ks, _, _, hl => by
    have e : ks = [] := List.length_eq_zero_iff.mp (Nat.le_zero.mp hl)
    rw [e]
  | x :: l, ks, nd, sub, hl => by
    obtain ⟨hx, nd'⟩ := List.nodup_cons.mp nd
    have hk : x ∈ ks := sub x List.mem_cons_self
    have p1 : ks.Perm (x :: ks.erase x) := List.perm_cons_erase hk
    have l1 : (ks.erase x).length = ks.length - 1 := List.length_erase_of_mem hk
    have sub' : ∀ y ∈ l, y ∈ ks.erase x := fun y hy => by
      have ne : y ≠ x := fun e => hx (e ▸ hy)
      exact (List.mem_erase_of_ne ne).mpr (sub y (List.mem_cons_of_mem _ hy))
    have p2 := perm_of_sub l (ks.erase x) nd' sub' (by rw [l1]; rw [List.length_cons] at hl; omega)
    exact p1.trans (p2.cons x)

/-! ### the set's state -/
structure Ok (P : Program) (w : World) (D : SD) (l : List Str) : Prop where
  tx : TxOk P w D l
  up : Ris D.2.2.place.toList
  led : w.params.followText "set-order" = true ∨ D.2.2.led = true
  nd : l.Nodup
def At (P : Program) (w : World) (h : Heap) (a : Addr) (l : List Str) : Prop := ∃ D : SD, h.get? a = some (sObj "set" D) ∧ Ok P w D l

section
variable {P : Program} {w : World} {A : Around} {E : Value → Shared → Prop} {s : Shared}
theorem At.move {h h' : Heap} {a : Addr} {l : List Str} (x : At P w h a l) (k : ∀ o, h.get? a = some o → h'.get? a = some o) : At P w h' a l := by
  obtain ⟨D, hD, o⟩ := x
  exact ⟨D, k _ hD, o⟩
theorem tail_up {ep : Nat} {es : Array (Int × Value)} {t : SetTable} {b : Bool} (r : Ris t.place.toList) : Ris (tailTx ep es t b).2.2.place.toList := by
  unfold tailTx
  by_cases c : (!b && t.tooFull) = true
  · rw [if_pos c]
    exact relayAll_ris _ _ _
  · rw [if_neg c]
    exact r
theorem tail_led {ep : Nat} {es : Array (Int × Value)} {t : SetTable} {b : Bool} : (tailTx ep es t b).2.2.led = t.led := by
  unfold tailTx
  by_cases c : (!b && t.tooFull) = true
  · rw [if_pos c]
    exact relayAll_led _ _ _
  · rw [if_neg c]
def dull (t : SetTable) : SetTable := if t.plain = true then { t with plain := false } else t
theorem dull_place (t : SetTable) : (dull t).place = t.place := by
  unfold dull
  by_cases c : t.plain = true
  · rw [if_pos c]
  · rw [if_neg c]
theorem dull_led (t : SetTable) : (dull t).led = t.led := by
  unfold dull
  by_cases c : t.plain = true
  · rw [if_pos c]
  · rw [if_neg c]
theorem Ok.add {D : SD} {l : List Str} {k : Str} (u : Tok) (o : Ok P w D l) (hk : k ∉ l) : Ok P w (addTx (hashStr w k) (.str k u) D) (k :: l) := by
  obtain ⟨es, ep, t⟩ := D
  have r1 : Ris (layNew t es (hashStr w k) (.str k u)).2.1.place.toList := layNew_ris t es _ _ o.up
  have l1 : (layNew t es (hashStr w k) (.str k u)).2.1.led = t.led := layNew_led t es _ _
  have e : addTx (hashStr w k) (.str k u) (es, ep, t) = tailTx ep (layNew t es (hashStr w k) (.str k u)).1 (dull (layNew t es (hashStr w k) (.str k u)).2.1) (layNew t es (hashStr w k) (.str k u)).2.2.1 := rfl
  refine ⟨add_ok u o.tx, ?_, ?_, List.nodup_cons.mpr ⟨hk, o.nd⟩⟩
  · rw [e]
    exact tail_up (by rw [dull_place]; exact r1)
  · refine o.led.imp id fun z => ?_
    rw [e, tail_led, dull_led, l1]
    exact z
theorem add_old {a : Addr} {T : String} {D : SD} {l : List Str} {k : Str} {u : Tok} {Q : Bool → Shared → Prop} (ho : s.heap.get? a = some (sObj T D)) (o : TxOk P w D l) (hk : k ∈ l) (hb : l.length < scanBound) (h : Q false s) :
    wpAny (model P w) A (setAddHashed a (.str k u) (hashStr w k)) Q E s := by
  obtain ⟨es, ep, t⟩ := D
  have dd : (sObj T (es, ep, t)).data = .set es ep t := rfl
  have ft : t.fits es.size = true := o.fit
  have el : ElemsOf (strKind P w) es.toList := o.el
  have z : es.size = l.length := o.sz
  have b0 : es.size < scanBound := by omega
  have ky : (strKind P w).is k (.str k u) = true := is_str k u
  obtain ⟨e0, he0, q0⟩ := (o.mem k).mp hk
  unfold setAddHashed setAddHashedIn
  refine wpAny_holding (wpAny_bind (wpAny_setState_of ho dd ft ?_))
  dsimp only
  rw [byScan_of rfl b0 el]
  simp only [↓reduceIte]
  unfold setAddByScan
  refine wpAny_bind (wpAny_bind (wpAny_rule (wpAny_bind (wpAny_setScan_of (knd := strKind P w) (k := k) ky ho dd ft el ?_))))
  cases fi : List.findIdx? (fun e => (strKind P w).is k e.2) es.toList with
  | some j =>
    dsimp only
    exact wpAny_pure (wpAny_pure h)
  | none =>
    have c := List.findIdx?_eq_none_iff.mp fi e0 he0
    rw [q0] at c
    cases c

/-! ### the loop that fills it -/
theorem fill {I : Addr} {fp wr : List Addr} {G : Array GenState → Array GenState → Prop} {n : Nat} {Pv : Nat → Value → Prop} {St : Nat → Shared → Prop} {R : Result → Shared → Prop}
    (W : WalksS P w A.in1 I fp wr G n Pv St) (a : Addr) (ha : a ∉ fp) (xs : List Str) (hn : n = xs.length) (hb : xs.length + 1 < scanBound) (hv : ∀ i v, Pv i v → ∃ k t, xs[i]? = some k ∧ v = .str k t) :
    ∀ (m i : Nat) (s : Shared), n - i = m → i ≤ n → St i s → (∃ l, At P w s.heap a l ∧ l.length ≤ i ∧ ∀ k, k ∈ l ↔ k ∈ xs.take i) →
      (∀ s' l, Moved (a :: wr) G s s' → At P w s'.heap a l → (∀ k, k ∈ l ↔ k ∈ xs) → l.length ≤ n → R (.ok (.ret .none)) s') →
      codeAny (model P w) A (.builtin "set.update.loop" ⟨[.ref a, .ref I], []⟩) R s := by
  have aw : a ∉ wr := fun q => ha (W.sub _ q)
  have ww : ∀ b ∈ wr, b ∈ a :: wr := fun b q => List.mem_cons_of_mem _ q
  intro m
  induction m with
  | zero =>
    intro i s em hi st ⟨l, hA, hl, mem⟩ hR
    obtain rfl : i = n := by omega
    refine codeAny_builtin F.entry_set_update_loop ?_
    rw [Around.under_plainId F.plain_set_update_loop _]
    show wpAny _ A.in1 (pyNext (.ref I) >>= _) _ _ s
    refine wpAny_bind (W.done s _ _ st fun s' mv => ?_)
    show wpAny _ A.in1 (ret Value.none) _ _ s'
    have et : xs.take i = xs := List.take_of_length_le (by omega)
    rw [et] at mem
    exact wpAny_pure (hR s' l (mv.mono ww) (hA.move fun o e => mv.heap a o aw e) mem hl)
  | succ m ih =>
    intro i s em hi st ⟨l, hA, hl, mem⟩ hR
    have lt : i < n := by omega
    refine codeAny_builtin F.entry_set_update_loop ?_
    rw [Around.under_plainId F.plain_set_update_loop _]
    show wpAny _ A.in1 (pyNext (.ref I) >>= _) _ _ s
    refine wpAny_bind (W.item i s _ _ lt st fun v s1 hP st1 mv => ?_)
    obtain ⟨k, t, hk, rfl⟩ := hv i v hP
    obtain ⟨D, hD, oD⟩ := hA.move (h' := s1.heap) fun o e => mv.heap a o aw e
    show wpAny _ A.in1 (holding [Value.str k t] (setAdd a (.str k t)) >>= _) _ _ s1
    refine wpAny_bind (wpAny_holding ?_)
    unfold setAdd
    refine wpAny_holding (wpAny_bind ((strKind P w).pyHash (k := k) (is_str k t) ?_))
    have tk : xs.take (i + 1) = xs.take i ++ [k] := by rw [List.take_add_one, hk] <;> rfl
    by_cases kl : k ∈ l
    · refine add_old (s := { s1 with toks := s1.toks + 1 }) hD oD.tx kl (by omega) ?_
      refine wpAny_pure ⟨plainId_quiet F.plain_set_update_loop _, ih (i + 1) _ (by omega) lt (W.frame _ s1 _ _ st1 (Nat.le_succ _) fun b _ o e => e) ⟨l, ⟨D, hD, oD⟩, by omega, fun j => ?_⟩ fun s2 l2 mv2 hA2 mem2 hl2 => ?_⟩
      · rw [tk, List.mem_append, List.mem_singleton, ← mem j]
        exact ⟨.inl, fun q => q.elim id fun e => e ▸ kl⟩
      · exact hR s2 l2 (Moved.trans W.gtrans ((mv.mono ww).then_heap (Nat.le_succ _) fun b o _ e => e) mv2) hA2 mem2 hl2
    · refine add_x (s := { s1 with toks := s1.toks + 1 }) hD oD.tx kl (by omega) ?_
      have hg : (s1.heap.update a (fun _ => sObj "set" (addTx (hashStr w k) (.str k t) D))).get? a = some (sObj "set" (addTx (hashStr w k) (.str k t) D)) := get_upd _ hD rfl
      have ot : ∀ b o, b ≠ a → s1.heap.get? b = some o → (s1.heap.update a (fun _ => sObj "set" (addTx (hashStr w k) (.str k t) D))).get? b = some o :=
        fun b o ne e => (Heap.get?_update_other _ _ (Ne.symm ne)).trans e
      refine wpAny_pure ⟨plainId_quiet F.plain_set_update_loop _, ih (i + 1) _ (by omega) lt (W.frame _ s1 _ _ st1 (Nat.le_succ _) fun b q o e => ?_) ⟨k :: l, ⟨_, hg, oD.add t kl⟩, by rw [List.length_cons]; omega, fun j => ?_⟩ fun s2 l2 mv2 hA2 mem2 hl2 => ?_⟩
      · exact ot b o (fun z => ha (z ▸ q)) e
      · rw [tk, List.mem_append, List.mem_singleton, ← mem j, List.mem_cons]
        exact Or.comm
      · refine hR s2 l2 (Moved.trans W.gtrans ((mv.mono ww).then_heap (Nat.le_succ _) fun b o q e => ?_) mv2) hA2 mem2 hl2
        exact ot b o (fun z => q (z ▸ List.mem_cons_self)) e
end

/-! ### set(v) -/
abbrev fresh (w : World) : Obj := { cls := .type "set", dict := none, data := .set #[] 0 (.fresh 0 0 (!w.params.followText "set-order")) }
theorem fresh_ok {P : Program} {w : World} : Ok P w (#[], 0, .fresh 0 0 (!w.params.followText "set-order")) [] where
  tx := TxOk.nil (by rfl)
  up := List.Pairwise.nil
  led := by
    show _ ∨ (!w.params.followText "set-order") = true
    cases w.params.followText "set-order"
    · exact .inr rfl
    · exact .inl rfl
  nd := List.nodup_nil
theorem at_fresh {P : Program} {w : World} {h : Heap} {a : Addr} (e : h.get? a = some (fresh w)) : At P w h a [] := ⟨(#[], 0, .fresh 0 0 (!w.params.followText "set-order")), e, fresh_ok⟩

section
variable {P : Program} {w : World} {A : Around} {E : Value → Shared → Prop} {s : Shared}
/-- what set(v) leaves: a new object, all else as it was -/
def Left (P : Program) (w : World) (s : Shared) (xs : List Str) (s' : Shared) : Prop :=
  ∃ h' tk l, s' = { s with heap := h', toks := tk } ∧ At P w h' s.heap.objs.size l ∧ (∀ k, k ∈ l ↔ k ∈ xs) ∧ l.length ≤ xs.length ∧ ∀ b o, s.heap.get? b = some o → h'.get? b = some o
set_option maxHeartbeats 4000000 in
theorem call_set_of {v : Value} {xs : List Str} {Q : Value → Shared → Prop}
    (hI : ∀ A' : Around, A'.handled = A.handled → wpAny (model P w) A' (Builtin.«set.__init__» ⟨[.ref s.heap.objs.size, v], []⟩) (fun f s2 => f = .done (.ret .none) ∧ Left P w s xs s2) E { s with heap := s.heap.push (fresh w) })
    (h : ∀ s', Left P w s xs s' → Q (.ref s.heap.objs.size) s') :
    wpAny (model P w) A (call (.type "set") [v]) Q E s := by
  obtain ⟨c, tl, hmro⟩ := F.called_set.mro
  have hmade := F.called_set.made
  have hsub := F.called_set.sub
  refine wpAny_call (codeAny_of_tree ?_)
  show wpAny _ _ (callAny (.type "set") _) _ _ _
  refine wpAny_pure ⟨Code.quiet_builtin _ (by decide +kernel), codeAny_builtin F.entry_type_call ?_⟩
  rw [Around.under_plain (weight_type_call_type "set" [v] []) rfl]
  have h1 := F.called_set.notType
  have h2 := F.called_set.canCreate
  have hct := F.typeCall_set_1 v
  repeat (any_goals (first | assumption | wp_step))
  refine codeAny_mono (code_set_led1 v (E := E) (Q₁ := fun obj s₁ => obj = .ref s.heap.objs.size ∧ s₁ = { s with heap := s.heap.push (fresh w) }) ⟨rfl, rfl⟩) fun r s₁ hr => ?_
  cases r with
  | error e => exact hr
  | ok fl =>
    cases fl with
    | ret obj =>
      obtain ⟨rfl, rfl⟩ := hr
      have hS : (s.heap.push (fresh w)).get? s.heap.objs.size = some (fresh w) := Heap.get?_push_size _ rfl
      have hT : Shared.TypeIs { s with heap := s.heap.push (fresh w) } (.ref s.heap.objs.size) "set" := ⟨_, hS, rfl⟩
      have hli := F.called_set.init.lookup
      have hbi := F.called_set.init.bind (.ref s.heap.objs.size)
      repeat (any_goals (first | assumption | wp_step))
      refine codeAny_mono (codeAny_call_builtin (R := wants (fun r s₂ => r = .none ∧ Left P w s xs s₂) E) F.called_set.init.plain F.entry_set_init (check_set_init_1 hT ?_)) fun r₂ s₂ hr₂ => ?_
      · refine wpAny_mono (hI A.in1.in1 (by simp)) (fun f s2 q => ?_) fun e s2 q => q
        obtain ⟨rfl, q⟩ := q
        exact ⟨rfl, q⟩
      · cases r₂ with
        | error e => exact hr₂
        | ok fl₂ =>
          cases fl₂ with
          | ret r =>
            obtain ⟨rfl, hL⟩ := hr₂
            repeat (any_goals (first | assumption | wp_step))
            exact h _ hL
          | _ => exact hr₂.elim
    | _ => exact hr.elim
theorem left_of {a : Addr} {wr : List Addr} {xs l : List Str} {s s1 s' : Shared} (ea : a = s.heap.objs.size) (hw : ∀ b ∈ wr, s.heap.objs.size ≤ b) (k1 : ∀ b o, s.heap.get? b = some o → s1.heap.get? b = some o)
    (eg : s1.gens = s.gens) (ed : s1.drawn = s.drawn) (eo : s1.os = s.os) (mv : Moved (a :: wr) (fun x y => y = x) s1 s') (hA : At P w s'.heap a l) (mem : ∀ k, k ∈ l ↔ k ∈ xs) (hl : l.length ≤ xs.length) : Left P w s xs s' := by
  obtain ⟨h', g', d', tk', os'⟩ := s'
  have e1 : g' = s.gens := mv.gens.trans eg
  have e2 : d' = s.drawn := mv.drawn.trans ed
  have e3 : os' = s.os := mv.os.trans eo
  subst e1 e2 e3 ea
  refine ⟨h', tk', l, rfl, hA, mem, hl, fun b o e => ?_⟩
  have lt : b < s.heap.objs.size := Heap.lt_size e
  refine mv.heap b o (fun z => ?_) (k1 b o e)
  rcases List.mem_cons.mp z with z | z
  · exact absurd z (Nat.ne_of_lt lt)
  · exact absurd (hw b z) (Nat.not_le_of_lt lt)
set_option maxHeartbeats 4000000 in
theorem init_list {l : Addr} {items : Array Value} {xs : List Str} (hh : A.handled = none) (hl : s.heap.IsList l items) (hi : StrsAre items.toList xs) (hb : xs.length + 1 < scanBound) :
    wpAny (model P w) A (Builtin.«set.__init__» ⟨[.ref s.heap.objs.size, .ref l], []⟩) (fun f s2 => f = .done (.ret .none) ∧ Left P w s xs s2) E { s with heap := s.heap.push (fresh w) } := by
  have hsz : xs.length = items.size := by rw [← StrsAre.len_eq hi, Array.length_toList]
  have hv : ∀ (i : Nat) (v : Value), items[i]? = some v → ∃ k t, xs[i]? = some k ∧ v = .str k t := fun i v q => by
    have hi' : i < xs.length := by rw [hsz]; exact (Array.getElem?_eq_some_iff.mp q).1
    obtain ⟨t, e⟩ := SS.strs_at hi i v (by rw [Array.getElem?_toList]; exact q)
    refine ⟨xs[i], t, List.getElem?_eq_getElem hi', ?_⟩
    rw [e, List.getD_eq_getElem?_getD, List.getElem?_eq_getElem hi'] <;> rfl
  have hS : (s.heap.push (fresh w)).get? s.heap.objs.size = some (fresh w) := Heap.get?_push_size _ rfl
  have hT : Shared.TypeIs { s with heap := s.heap.push (fresh w) } (.ref s.heap.objs.size) "set" := ⟨_, hS, rfl⟩
  obtain ⟨ol, hol, hcl, nl, hdl⟩ := id hl
  obtain ⟨ocls, odict, odata, oslots⟩ := ol
  simp only at hcl hdl
  subst hcl; subst hdl
  have hol1 : (s.heap.push (fresh w)).get? l = some { cls := .type "list", dict := odict, data := .seq items nl, slots := oslots } := Heap.get?_push_of_some _ hol
  have f1 := F.sub_list_set
  have f2 := F.sub_list_frozenset
  have f3 : (Value.type "list" == Value.type "dict") = false := by decide
  have hl1 : (s.heap.push (fresh w)).IsList l items := ⟨_, hol1, rfl, nl, rfl⟩
  have lS : l < s.heap.objs.size := Heap.lt_size hol
  have nI : l ≠ (s.heap.push (fresh w)).objs.size := by
    rw [Heap.size_push]
    exact Nat.ne_of_lt (Nat.lt_succ_of_lt lS)
  have nS : s.heap.objs.size ∉ [(s.heap.push (fresh w)).objs.size, l] := by
    rw [Heap.size_push]
    intro q
    rcases List.mem_cons.mp q with q | q
    · exact absurd q (Nat.ne_of_lt (Nat.lt_succ_self _))
    · exact absurd (List.mem_singleton.mp q) (Nat.ne_of_gt lS)
  have z1 : (s.heap.push (fresh w)).objs.size = s.heap.objs.size + 1 := Heap.size_push ..
  unfold Builtin.«set.__init__» noKeywords Builtin.Frozenset.updateFrom
  generalize ePI : pyIter = PI
  wp_walk
  subst ePI
  refine wpAny_pyIter_list hl1 ?_
  refine wpAny_bind (wpAny_runValue ?_)
  refine fill ((Walks.list (by simp [hh]) _ l nI items).toS) s.heap.objs.size nS xs hsz.symm hb hv (items.size - 0) 0 _ rfl (Nat.zero_le _)
    ⟨⟨_, Heap.get?_push_size _ rfl, rfl, rfl⟩, hl1.push _⟩ ⟨[], at_fresh (Heap.get?_push_of_some _ hS), Nat.le_refl _, fun k => by simp⟩ fun s' m mv hA mem hm => ?_
  show wpAny _ _ _ _ _ _
  refine wpAny_pure ?_
  show wpAny _ _ (ret Value.none) _ _ _
  refine wpAny_pure ⟨rfl, left_of (wr := [_]) rfl ?_ ?k1 ?e1 ?e2 ?e3 mv hA mem (by omega)⟩
  case k1 => exact fun b o e => Heap.get?_push_of_some _ (Heap.get?_push_of_some _ e)
  case e1 => rfl
  case e2 => rfl
  case e3 => rfl
  intro b q
  rw [List.mem_singleton.mp q]
  show _ ≤ (s.heap.push (fresh w)).objs.size
  rw [z1]
  exact Nat.le_succ _
set_option maxHeartbeats 4000000 in
theorem init_text {x : Str} {t : Tok} (hh : A.handled = none) (hb : x.length + 1 < scanBound) :
    wpAny (model P w) A (Builtin.«set.__init__» ⟨[.ref s.heap.objs.size, .str x t], []⟩) (fun f s2 => f = .done (.ret .none) ∧ Left P w s (x.cps.toList.map fun c => (⟨#[c]⟩ : Str)) s2) E { s with heap := s.heap.push (fresh w) } := by
  have hsz : (x.cps.toList.map fun c => (⟨#[c]⟩ : Str)).length = x.cps.size := by rw [List.length_map, Array.length_toList]
  have hx : x.length = x.cps.size := rfl
  have hv : ∀ (i : Nat) (v : Value), SignAt x i v → ∃ k t, (x.cps.toList.map fun c => (⟨#[c]⟩ : Str))[i]? = some k ∧ v = .str k t := fun i v ⟨c, u, q, e⟩ => by
    refine ⟨⟨#[c]⟩, u, ?_, e⟩
    rw [List.getElem?_map, Array.getElem?_toList, q] <;> rfl
  have hS : (s.heap.push (fresh w)).get? s.heap.objs.size = some (fresh w) := Heap.get?_push_size _ rfl
  have hT : Shared.TypeIs { s with heap := s.heap.push (fresh w) } (.ref s.heap.objs.size) "set" := ⟨_, hS, rfl⟩
  have hTx : Shared.TypeIs { s with heap := s.heap.push (fresh w) } (.str x t) "str" := typeIs_str _ x t
  have f1 := PySem.F.sub_str_set
  have f2 := PySem.F.sub_str_frozenset
  have f3 : (Value.type "str" == Value.type "dict") = false := by decide
  have z1 : (s.heap.push (fresh w)).objs.size = s.heap.objs.size + 1 := Heap.size_push ..
  unfold Builtin.«set.__init__» noKeywords Builtin.Frozenset.updateFrom
  generalize ePI : pyIter = PI
  wp_walk
  subst ePI
  refine wpAny_pyIter_str fun o St W st => ?_
  refine wpAny_bind (wpAny_runValue ?_)
  refine fill ((W _ (by simp [hh])).toS) s.heap.objs.size (by rw [z1]; simp) _ hsz.symm (by rw [hsz, ← hx]; exact hb) hv (x.cps.size - 0) 0 _ rfl (Nat.zero_le _)
    st ⟨[], at_fresh (Heap.get?_push_of_some _ hS), Nat.le_refl _, fun k => by simp⟩ fun s' m mv hA mem hm => ?_
  show wpAny _ _ _ _ _ _
  refine wpAny_pure ?_
  show wpAny _ _ (ret Value.none) _ _ _
  refine wpAny_pure ⟨rfl, left_of (wr := [_]) rfl ?_ ?k1 ?e1 ?e2 ?e3 mv hA mem (by rw [hsz]; exact hm)⟩
  case k1 => exact fun b o e => Heap.get?_push_of_some _ (Heap.get?_push_of_some _ e)
  case e1 => rfl
  case e2 => rfl
  case e3 => rfl
  intro b q
  rw [List.mem_singleton.mp q]
  show _ ≤ (s.heap.push (fresh w)).objs.size
  rw [z1]
  exact Nat.le_succ _

/-! ### sorted(set) -/
theorem texts_of {es : List (Int × Value)} (el : ElemsOf (strKind P w) es) : ∀ vs : List Value, (∀ v ∈ vs, v ∈ es.map (·.2)) → ∃ ks : List Str, StrsAre vs ks ∧ (∀ k, k ∈ ks ↔ ∃ v ∈ vs, (strKind P w).is k v = true) ∧ ks.length = vs.length
  | [], _ => ⟨[], .nil, fun k => by simp, rfl⟩
  | v :: vs, h => by
    obtain ⟨ks, h1, h2, h3⟩ := texts_of el vs fun u q => h u (List.mem_cons_of_mem _ q)
    obtain ⟨e, he, ev⟩ := List.mem_map.mp (h v List.mem_cons_self)
    obtain ⟨⟨k, hk, _⟩, _⟩ := el e he
    rw [ev] at hk
    obtain ⟨t, rfl⟩ := Value.isStrOf_shape hk
    refine ⟨k :: ks, .cons k t h1, fun j => ?_, by rw [List.length_cons, List.length_cons, h3]⟩
    rw [List.mem_cons, h2 j]
    constructor
    · rintro (q | ⟨u, hu, q⟩)
      · exact ⟨_, List.mem_cons_self, by rw [q]; exact hk⟩
      · exact ⟨u, List.mem_cons_of_mem _ hu, q⟩
    · rintro ⟨u, hu, q⟩
      rcases List.mem_cons.mp hu with z | z
      · rw [z] at q
        exact .inl ((strKind P w).inj _ _ _ q hk)
      · exact .inr ⟨u, z, q⟩
theorem sorted_at {a : Addr} {l : List Str} {Q : Value → Shared → Prop} (R : At P w s.heap a l) (hh : A.handled = none) (h64 : l.length < 64)
    (hQ : ∀ s' p (out : Array Value) (c : Nat) (ys : List Str), (∀ b o, s.heap.get? b = some o → s'.heap.get? b = some o) → s'.gens = s.gens → s'.os = s.os → s.heap.objs.size ≤ p →
      s'.heap.get? p = some (seqObj "list" out c) → StrsAre out.toList ys → ys.Perm l → sortedS ys = true → Q (.ref p) s') :
    wpAny (model P w) A (call (.builtin "sorted") [.ref a]) Q E s := by
  obtain ⟨⟨es, ep, t⟩, ho, ok⟩ := R
  have ft : t.fits es.size = true := ok.tx.fit
  have z : es.size = l.length := ok.tx.sz
  have sb : es.size < scanBound := by
    unfold scanBound
    omega
  refine Calls.call_function_entry kind_sorted plain_sorted entry_sorted (args_sorted1 _) ?_
  unfold Builtin.«sorted»
  refine wpAny_bind (m := checkCount "sorted" 1 1 _) (wpAny_pure ?_)
  refine wpAny_bind (collect_set (A := A.in1) hh ⟨_, ho, rfl, rfl⟩ ft sb ok.up ok.led fun s1 vs k1 hz g1 o1 pm => ?_)
  obtain ⟨ks, hS, mem, hlen⟩ := texts_of ok.tx.el vs fun v hv => pm.mem_iff.mp hv
  have vl : vs.length = l.length := by rw [pm.length_eq, List.length_map, Array.length_toList]; exact z
  have pk : ks.Perm l := perm_of_sub l ks ok.nd (fun k hk => by
    obtain ⟨e, he, q⟩ := (ok.tx.mem k).mp hk
    exact (mem k).mpr ⟨e.2, pm.mem_iff.mpr (List.mem_map.mpr ⟨e, he, rfl⟩), q⟩) (by omega)
  refine wpAny_bind (wpAny_newList ?_ (by rw [vl, sizeLine_eq]; omega))
  have hoL : (s1.heap.push (seqObj "list" vs.toArray 0)).get? s1.heap.objs.size = some (seqObj "list" vs.toArray 0) := Heap.get?_push_size _ rfl
  refine wpAny_bind (wpAny_holding (wpAny_call_entry slot_list_sort ⟨_, hoL, rfl⟩ entry_list_sort
    (list_sort_treeK strKind_oneLt hoL hS.keysOf (fun v₁ v₂ rest e => keyKind_strs (by rw [← e]; exact hS)) (by rw [vl]; exact h64) fun st' hp hs => ?_) (args_list_sort _)))
  obtain ⟨ys, y1, y2, y3⟩ := sorted_out_str hS hp hs
  obtain ⟨c, hc⟩ := sortedHeap_at (vs := vs) (out := Array.map (fun x => x.snd) (arrOf st')) hoL
  refine ⟨_, rfl, wpAny_pure ⟨_, rfl, hQ _ s1.heap.objs.size _ c ys (fun b u e => ?_) g1 o1 hz hc y1 (y2.trans pk) y3⟩⟩
  have q := k1 b u e
  have lt := Heap.lt_size q
  show (sortedHeap (s1.heap.push (seqObj "list" vs.toArray 0)) s1.heap.objs.size vs _).get? b = some u
  rw [sortedHeap_old (Nat.ne_of_lt lt) (by rw [Heap.size_push]; exact Nat.lt_succ_of_lt lt)]
  exact Heap.get?_push_of_some _ q
end

/-! ### over the layer -/
def SetTx (P : Program) (w : World) (a : Addr) (l : List Str) : HO := .ext fun h => At P w h a l
theorem setTx_new {P : Program} {w : World} {H : Hp} {h : Heap} {a : Addr} {l : List Str} (R : At P w h a l) : ObjOk P w H h a (SetTx P w a l) := by
  have ⟨D, hD, _⟩ := R
  exact ⟨R, ⟨_, hD⟩, fun h1 h2 p k => At.move p k⟩
section
variable {X : Cx}
/-- set(xs), xs a list of texts -/
def rSetL (K : PySem.W.Frag) (P : Program) (w : World) : List V → Hp → VK → Prop := fun xs H Q => ∃ (l : Addr) (ss : List Str), xs = [V.ref l] ∧ SqL K H l (ss.map V.str) ∧ ss.length + 1 < scanBound ∧
  ∀ (a : Addr) (ls : List Str), H a = none → ls.Nodup → (∀ k, k ∈ ls ↔ k ∈ ss) → ls.length ≤ ss.length → Q (.ref a) (upd H a (SetTx P w a ls))
theorem At.nd {P : Program} {w : World} {h : Heap} {a : Addr} {l : List Str} (x : At P w h a l) : l.Nodup := by
  obtain ⟨D, _, o⟩ := x
  exact o.nd
theorem cr_setL (hc : X.calm = true) : CallR X (.type "set") (rSetL X.K X.prog X.w) := by
  intro pins s σ H xs us Q I r h
  obtain ⟨l, ss, rfl, hs, hb, q⟩ := h
  obtain ⟨its, rv, hl, _⟩ := I.list hs
  rw [Vals.ref1 r]
  have hn : H s.heap.objs.size = none := I.hok.fresh (Nat.le_refl _)
  refine call_set_of (xs := ss) (fun A' e => init_list (e.trans (I.ok.hd hc)) hl.isList rv.strs hb) fun s' L => ?_
  obtain ⟨h', tk, ls, rfl, hA, mem, hlen, kp⟩ := L
  exact ⟨.ref s.heap.objs.size, upd H s.heap.objs.size (SetTx X.prog X.w s.heap.objs.size ls), I.laid (t' := tk) kp (Nat.le_refl _) (setTx_new hA), rfl, q _ ls hn hA.nd mem hlen⟩
def signs (x : Str) : List Str := x.cps.toList.map fun c => (⟨#[c]⟩ : Str)
/-- set(x), x a text -/
def rSetT (P : Program) (w : World) : List V → Hp → VK → Prop := fun xs H Q => ∃ (x : Str), xs = [V.str x] ∧ x.length + 1 < scanBound ∧
  ∀ (a : Addr) (ls : List Str), H a = none → ls.Nodup → (∀ k, k ∈ ls ↔ k ∈ signs x) → ls.length ≤ x.length → Q (.ref a) (upd H a (SetTx P w a ls))
theorem cr_setT (hc : X.calm = true) : CallR X (.type "set") (rSetT X.prog X.w) := by
  intro pins s σ H xs us Q I r h
  obtain ⟨x, rfl, hb, q⟩ := h
  obtain ⟨t, rfl⟩ : ∃ t, us = [Value.str x t] := by
    cases r with
    | cons r1 r2 =>
      cases r2
      obtain ⟨t, rfl⟩ := r1
      exact ⟨t, rfl⟩
  have hn : H s.heap.objs.size = none := I.hok.fresh (Nat.le_refl _)
  refine call_set_of (xs := x.cps.toList.map fun c => (⟨#[c]⟩ : Str)) (fun A' e => init_text (e.trans (I.ok.hd hc)) hb) fun s' L => ?_
  obtain ⟨h', tk, ls, rfl, hA, mem, hlen, kp⟩ := L
  rw [List.length_map, Array.length_toList] at hlen
  exact ⟨.ref s.heap.objs.size, upd H s.heap.objs.size (SetTx X.prog X.w s.heap.objs.size ls), I.laid (t' := tk) kp (Nat.le_refl _) (setTx_new hA), rfl, q _ ls hn hA.nd mem hlen⟩
/-- sorted(found) of texts, fewer than 64 -/
def rSortTx (P : Program) (w : World) : List V → Hp → VK → Prop := fun vs H Q => ∃ (a : Addr) (l : List Str), vs = [V.ref a] ∧ H a = some (SetTx P w a l) ∧ l.length < 64 ∧
  ∀ (ys : List Str) (p : Addr), ys.Perm l → sortedS ys = true → H p = none → Q (.ref p) (upd H p (.lst (ys.map V.str)))
theorem cr_sortTx (hc : X.calm = true) : CallR X (.builtin "sorted") (rSortTx X.prog X.w) := by
  intro pins s σ H vs us Q I r h
  obtain ⟨a, l, rfl, ha, h64, q⟩ := h
  have R : At X.prog X.w s.heap a l := (I.hok a _ ha).1
  rw [Vals.ref1 r]
  refine sorted_at R (I.ok.hd hc) h64 fun s' p out c ys k g o hp hg hi pm so => ?_
  have hlen : (ys.map V.str).length ≤ sizeLine := by
    rw [List.length_map, pm.length_eq, sizeLine_eq]
    omega
  have hn : H p = none := I.hok.fresh hp
  have J : Inv X pins σ (upd H p (.lst (ys.map V.str))) { s with heap := s'.heap, gens := s'.gens, drawn := s'.drawn, toks := s'.toks } :=
    I.call (ch := []) (Un.laid k hp hn) (I.hok.laid k hp ⟨hlen, out.toList, c, vals_of_strs hi, hg⟩) (by rw [g]; exact I.bare) (fun _ z => nomatch z)
  have e : s' = { s with heap := s'.heap, gens := s'.gens, drawn := s'.drawn, toks := s'.toks } := by
    cases s'
    cases s
    cases o
    rfl
  rw [e]
  exact ⟨.ref p, _, J, rfl, q ys p pm so hn⟩
end
end TX
namespace DW
open PySem PySem.Spec PyProof.Rows L2
def topS (i : Nat) : Stmt := PySem.Challenge.pw_downwords_k06_written_products.main.body.getD i (.Pass ⟨0, 0, 0, 0⟩)
abbrev sIsAscending : Stmt := topS 6
abbrev sIsAlphabet : Stmt := topS 7
abbrev sIsWord : Stmt := topS 8
abbrev sIsFactor : Stmt := topS 11
abbrev sIsProduct : Stmt := topS 12
abbrev sFormatFactor : Stmt := topS 13
abbrev sFormatProduct : Stmt := topS 14
abbrev sReadFactor : Stmt := topS 15
abbrev sReadFactors : Stmt := topS 16
abbrev sLettersOf : Stmt := topS 17
abbrev sParseProduct : Stmt := topS 18
abbrev sBegin : Stmt := topS 20
abbrev sDraw : Stmt := topS 21
abbrev sPick : Stmt := topS 22
abbrev sAlpha : Stmt := topS 23
abbrev sFactor : Stmt := topS 24
abbrev sProduct : Stmt := topS 25
abbrev sLWritten : Stmt := topS 26
abbrev sLRead : Stmt := topS 27
abbrev sLParsed : Stmt := topS 28
abbrev sLaw : Stmt := topS 29
end DW
/-! zip(text, text) -/
namespace ZX
open PySem PySem.Spec PyProof.Rows L2
/-- the signs of two texts, side by side, in new pairs -/
def Itx (x y : Str) : It :=
  ⟨fun i _ => i < x.cps.size ∧ i < y.cps.size,
    fun i H v H' => ∃ (T : Addr) (c d : Nat), v = .ref T ∧ H T = none ∧ H' = upd H T (.tup [.str ⟨#[c]⟩, .str ⟨#[d]⟩]) ∧ x.cps[i]? = some c ∧ y.cps[i]? = some d,
    fun i _ => i = min x.cps.size y.cps.size⟩
theorem turn_zipX {P : Program} {w : World} {K : PySem.W.Frag} {elts : List Expr} {kk : Nat} {tpos : Pos} {x y : Str} {t u : Tok} {z TI TO i1 i2 : Addr} (S : ZipSep2 z TI TO i1 i2 [i1] [i2]) :
    Turn P w K (.Tuple elts kk tpos) (Itx x y) [z, TI, TO, i1, i2] z (fun i h => IsZip h z TI TO .none ∧ IsTupOf2 h TI (.ref i1) (.ref i2) ∧ (∃ a b, IsTupOf2 h TO a b) ∧ h.IsStrIter i1 (strIterType x) x t i ∧ h.IsStrIter i2 (strIterType y) y u i) where
  mem := by simp
  obj := fun i h st c hc => by
    obtain ⟨hz, hTI, ⟨a, b, hTO⟩, ⟨o1, e1, _, d1⟩, ⟨o2, e2, _, d2⟩⟩ := st
    have e' : c = z ∨ c = TI ∨ c = TO ∨ c = i1 ∨ c = i2 := by simpa using hc
    rcases e' with q | q | q | q | q
    · rw [q]; exact ⟨_, hz, fun v q => nomatch q⟩
    · rw [q]; exact ⟨_, hTI, fun v q => nomatch q⟩
    · rw [q]; exact ⟨_, hTO, fun v q => nomatch q⟩
    · rw [q]; exact ⟨o1, e1, fun v q => by rw [d1] at q; cases q⟩
    · rw [q]; exact ⟨o2, e2, fun v q => by rw [d2] at q; cases q⟩
  keep := fun i h h' st k => by
    obtain ⟨hz, hTI, ⟨a, b, hTO⟩, ⟨o1, e1, r1⟩, ⟨o2, e2, r2⟩⟩ := st
    exact ⟨k z (by simp) _ hz, k TI (by simp) _ hTI, ⟨a, b, k TO (by simp) _ hTO⟩, ⟨o1, k i1 (by simp) _ e1, r1⟩, ⟨o2, k i2 (by simp) _ e2, r2⟩⟩
  item := by
    intro X hP hw hK hc i pins s σ H E I hf st hg
    subst hP hw hK
    obtain ⟨hz, hTI, ⟨a0, b0, hTO⟩, h1, h2⟩ := st
    have hzl : z < s.heap.objs.size := Heap.lt_size hz
    refine wpAny_pyNext_zipD2_item S (Draws.text (A := X.A.in1) (I.ok.hd hc) i1 x t) (Draws.text (A := X.A.in1) (I.ok.hd hc) i2 y u) hz hTI hTO h1 h2 hg.1 hg.2 fun v1 v2 h' tk p1 p2 z' TO' h1' h2' hT hsz hk => ?_
    obtain ⟨c, tc, hc1, rfl⟩ := p1
    obtain ⟨d, td, hd1, rfl⟩ := p2
    refine ⟨_, rfl, wpAny_letOwnedTupleGo_zip (s := { s with heap := h', toks := tk }) z' fun h'' z'' sb => ?_⟩
    have hT2 : h''.get? s.heap.objs.size = some { cls := .type "tuple", data := .seq #[.str ⟨#[c]⟩ tc, .str ⟨#[d]⟩ td] } := (sb.2 _ (Nat.ne_of_gt hzl)).trans hT
    have new : ObjOk X.prog X.w (upd H s.heap.objs.size (.tup [.str ⟨#[c]⟩, .str ⟨#[d]⟩])) h'' s.heap.objs.size (.tup [.str ⟨#[c]⟩, .str ⟨#[d]⟩]) :=
      ⟨by show 2 ≤ sizeLine; decide, [.str ⟨#[c]⟩ tc, .str ⟨#[d]⟩ td], .cons ⟨_, rfl⟩ (.cons ⟨_, rfl⟩ .nil), ⟨_, hT2, rfl, _, rfl⟩⟩
    have I1 : Inv X pins σ (upd H s.heap.objs.size (.tup [.str ⟨#[c]⟩, .str ⟨#[d]⟩])) { s with heap := h'', toks := tk } :=
      I.turnedNew (t' := tk) (ch := [z, TI, TO, i1, i2]) (fun c o hb q => (sb.2 c (fun q' => hb (by simp [q']))).trans (hk c o (fun q' => hb (by simp [q'])) (fun q' => hb (by simp [q'])) (fun q' => hb (by simp [q'])) (fun q' => hb (by simp [q'])) q)) hf (Nat.le_refl _) new
    have st' : ∀ {a : Addr} {ty : String} {v : Str} {tv : Tok} {n : Nat}, a ≠ z → h'.IsStrIter a ty v tv n → h''.IsStrIter a ty v tv n := fun n ⟨o, e, r⟩ => ⟨o, (sb.2 _ n).trans e, r⟩
    refine ⟨.ref s.heap.objs.size, _, I1, rfl, ⟨_, c, d, rfl, I.hok.fresh (Nat.le_refl _), rfl, hc1, hd1⟩, ⟨z'', ?_, ⟨.str ⟨#[c]⟩ tc, .str ⟨#[d]⟩ td, ?_⟩, st' S.zi1.symm h1', st' S.zi2.symm h2'⟩, fun b hb => ?_⟩
    · exact (sb.2 _ S.TIz).trans (hk _ _ S.TIz S.TITO S.TIi1 S.TIi2 hTI)
    · exact (sb.2 _ S.TOz).trans TO'
    · have hlt : b < s.heap.objs.size := by
        have e' : b = z ∨ b = TI ∨ b = TO ∨ b = i1 ∨ b = i2 := by simpa using hb
        rcases e' with q | q | q | q | q
        · rw [q]; exact hzl
        · rw [q]; exact Heap.lt_size hTI
        · rw [q]; exact Heap.lt_size hTO
        · rw [q]; obtain ⟨_, e1, _⟩ := h1; exact Heap.lt_size e1
        · rw [q]; obtain ⟨_, e2, _⟩ := h2; exact Heap.lt_size e2
      rw [upd_ne (Nat.ne_of_lt hlt)]
      exact (hf b hb).1
  done := by
    intro X hP hw hK hc i pins s σ H E I hf st hg
    subst hP hw hK
    obtain ⟨hz, hTI, ⟨a0, b0, hTO⟩, h1, h2⟩ := st
    have hg' : i = min x.cps.size y.cps.size := hg
    exact wpAny_pyNext_zipD2_end S (Draws.text (A := X.A.in1) (I.ok.hd hc) i1 x t) (Draws.text (A := X.A.in1) (I.ok.hd hc) i2 y u) hz hTI hTO h1 h2 (by omega) (by omega) (by omega) fun h' tk hk => ⟨rfl, I.turnedL (t' := tk) (ch := [z, TI, TO, i1, i2]) (fun c o hb q =>
      hk c o (fun q' => hb (by simp [q'])) (fun q' => hb (by simp [q'])) (fun q' => hb (by simp [q'])) (fun q' => hb (by simp [q'])) q) hf⟩
  self := fun A i s Q E st h => wpAny_pyIter_zip st.1 h
theorem sep_new (n : Addr) : ZipSep2 (n + 4) (n + 2) (n + 3) n (n + 1) [n] [n + 1] := by
  constructor <;> simp <;> omega
def iZipX (ta : TA) : TI := fun σ H R => ta σ H fun vs H1 => ∃ x y : Str, vs = [.str x, .str y] ∧ R (Itx x y) H1
theorem pi_zipX {X : Cx} {e e2 : Expr} {ta : TA} {p pos tpos : Pos} {elts : List Expr} {kk : Nat} (hg : Gl X "zip") (hm : X.mg "zip" = none) (ha : PA X [e, e2] ta)
    (hs : starEach [e, e2] X.env = (false, eval e X.env) :: starEach [e2] X.env := by rfl) (hpl : (backTo pos (starEach [e2] X.env)).any (·.1) = false := by rfl) :
    PI X (.Tuple elts kk tpos) (.Call (.Name "zip" p) [e, e2] [] pos) (iZipX ta) := by
  refine ⟨fun pins s σ H R I h => ?_⟩
  refine Call_ (ld_blt I hg hm PyProof.Rows.boot_zip (PyProof.Rows.callWith_type1 (thn (ha.run pos pins s σ H _ I h) fun us s1 ⟨vs, H1, I1, r1, q1⟩ => ?_) hs hpl))
  obtain ⟨x, y, ex, q⟩ := q1
  subst ex
  cases r1 with
  | cons r rr =>
    cases rr with
    | cons r' rr =>
      cases rr
      obtain ⟨t, rfl⟩ := r
      obtain ⟨u, rfl⟩ := r'
      refine zip_begins2 (begins_text x t) (begins_text y u) trivial trivial fun h' hz hTI hTO h1 h2 hsz hk => wpAny_pyIter_zip hz ?_
      have I2 : Inv X pins σ H1 { s1 with heap := h' } := I1.kept (t' := s1.toks) hk
      refine ⟨s1.heap.objs.size + 4, [s1.heap.objs.size + 4, s1.heap.objs.size + 2, s1.heap.objs.size + 3, s1.heap.objs.size, s1.heap.objs.size + 1], _, _, H1, rfl, I2, turn_zipX (sep_new s1.heap.objs.size), ⟨hz, hTI, ⟨_, _, hTO⟩, ⟨_, h1, rfl, rfl⟩, ⟨_, h2, rfl, rfl⟩⟩, fun c hcm => ?_, q⟩
      have e' : c = s1.heap.objs.size + 4 ∨ c = s1.heap.objs.size + 2 ∨ c = s1.heap.objs.size + 3 ∨ c = s1.heap.objs.size ∨ c = s1.heap.objs.size + 1 := by simpa using hcm
      have hle : s1.heap.objs.size ≤ c := by
        rcases e' with z | z | z | z | z
        · rw [z]; exact Nat.le_add_right _ _
        · rw [z]; exact Nat.le_add_right _ _
        · rw [z]; exact Nat.le_add_right _ _
        · rw [z]; exact Nat.le_refl _
        · rw [z]; exact Nat.le_add_right _ _
      exact I1.fpOk hle (I1.hok.fresh hle)
theorem walk_zipX {x y : Str} : Walk (Itx x y) (min x.cps.size y.cps.size) (fun _ => True) (Itx x y).yld :=
  ⟨fun i _ hi _ => ⟨by omega, by omega⟩, fun _ _ => rfl, fun _ _ _ _ _ _ y => y⟩
end ZX
/-! list(text); text[::-1] as a text of the same length -/
namespace R1
open PySem PySem.Spec PyProof.Rows L2
theorem texts_in : ∀ l : List Value, (∀ v ∈ l, ∃ z t, v = .str z t) → ∃ ss : List Str, Vals (ss.map V.str) l
  | [], _ => ⟨[], .nil⟩
  | v :: l, h => by
    obtain ⟨ss, r⟩ := texts_in l fun u hu => h u (List.mem_cons_of_mem _ hu)
    obtain ⟨z, t, rfl⟩ := h v List.mem_cons_self
    exact ⟨z :: ss, .cons ⟨t, rfl⟩ r⟩
section
variable {X : Cx}
theorem cr_listT (hc : X.calm = true) : CallR X (.type "list") (fun xs H Q => ∃ x : Str, xs = [.str x] ∧ x.length ≤ sizeLine ∧ ∀ p (ss : List Str), H p = none → Q (.ref p) (upd H p (.lst (ss.map V.str)))) := by
  intro pins s σ H xs us Q I r h
  obtain ⟨x, rfl, hb, q⟩ := h
  obtain ⟨t, rfl⟩ : ∃ t, us = [Value.str x t] := by
    cases r with
    | cons r1 r2 =>
      cases r2
      obtain ⟨t, rfl⟩ := r1
      exact ⟨t, rfl⟩
  refine call_list_str (I.ok.hd hc) x t (hn := hb) fun h' tk acc c hk hS hacc => ?_
  obtain ⟨ss, rv⟩ := texts_in acc.toList fun v hv => by
    obtain ⟨j, hj⟩ := List.getElem?_of_mem hv
    obtain ⟨c, u, _, e⟩ := hacc.2 j v (by simpa using hj)
    exact ⟨_, u, e⟩
  have hl : (ss.map V.str).length ≤ sizeLine := by
    rw [rv.length, Array.length_toList, hacc.1]
    exact hb
  exact ⟨.ref s.heap.objs.size, upd H s.heap.objs.size (.lst (ss.map V.str)), I.laid (t' := tk) hk (Nat.le_refl _) ⟨hl, acc.toList, c, rv, hS⟩, rfl, q _ ss (I.hok.fresh (Nat.le_refl _))⟩
def tRevT (te : TE) : TE := fun σ H Q => te σ H fun x H1 => ∃ z : Str, x = .str z ∧ z.length ≤ sizeLine ∧ ∀ y : Str, y.length ≤ z.length → (∀ c ∈ y.cps.toList, c ∈ z.cps.toList) → Q (.str y) H1
theorem pe_revT {e : Expr} {te : TE} {k : Nat} {p1 p2 p3 pos : Pos} (he : PE X e te) : PE X (.Subscript e (.Slice none none (some (.UnaryOp .USub (.Constant (.int 1) k p1) p2)) p3) pos) (tRevT te) := by
  refine ⟨fun pins s σ H Q I h => ?_⟩
  refine Subscript_ (thn (he.run pins s σ H _ I h) fun v s1 ⟨x, H1, I1, r1, q1⟩ => ?_)
  obtain ⟨z, ex, hz, q⟩ := q1
  subst ex
  obtain ⟨t, rfl⟩ := r1
  have hst : PO X (some (.UnaryOp .USub (.Constant (.int 1) k p1) p2)) (tPart (tUn (rU fun i => .int (-i)) (tC (.int 1)))) := po_some (pe_un un_neg pe_int)
  refine wpAny_Slice (thn (po_none.run pins s1 σ H1 (fun o H2 => o = none ∧ H2 = H1) I1 ⟨rfl, rfl⟩) fun vl s2 ⟨l, H2, I2, pl, el, e2⟩ => ?_)
  subst el e2
  refine thn (po_none.run pins s2 σ H2 (fun o H3 => o = none ∧ H3 = H2) I2 ⟨rfl, rfl⟩) fun vu s3 ⟨u, H3, I3, pu, eu, e3⟩ => ?_
  subst eu e3
  refine thn (hst.run pins s3 σ H3 (fun o H4 => o = some (-1) ∧ H4 = H3) I3 ⟨1, rfl, -1, rfl, rfl, rfl⟩) fun vs s4 ⟨o, H4, I4, ps, eo, e4⟩ => ?_
  subst eo e4
  obtain ⟨l1, rfl, el⟩ := IsPart.raw pl
  obtain ⟨u1, rfl, eu⟩ := IsPart.raw pu
  obtain ⟨st1, rfl, es⟩ := IsPart.raw ps
  have I5 : Inv X pins σ H4 { s4 with heap := s4.heap.push { cls := .type "slice", data := .fields #[partValue l1, partValue u1, partValue st1] } } := I4.kept (t' := s4.toks) fun b ob q => Heap.get?_push_of_some _ q
  show wpAny (model X.prog X.w) X.A (subscriptTail e (.Slice none none (some (.UnaryOp .USub (.Constant (.int 1) k p1) p2)) p3) (.str z t) (.ref s4.heap.objs.size)) (EP X pins σ Q) X.xe { s4 with heap := s4.heap.push { cls := .type "slice", data := .fields #[partValue l1, partValue u1, partValue st1] } }
  refine tail_any (ops := [.str z t, .ref s4.heap.objs.size]) (typeIs_str _ _ _) (F.slot_str_getitem.lookup) ?_ (by with_unfolding_all rfl)
  refine wpAny_getItem_str_slice (l := l1) (u := u1) (st := st1) ⟨_, Heap.get?_push_size _ rfl, rfl, rfl⟩ (by rw [es]; rfl) ?_
  have e0 : sliceMade z t l1 u1 st1 = .str ⟨(((List.range z.length).map fun k => z.length - 1 - k).filterMap (z.cps[·]?)).toArray⟩ := by
    unfold sliceMade slicePicked
    rw [el, eu, es]
    show (if ((-1 : Int) == 1 && _) = true then _ else _) = _
    rw [if_neg (by simp)]
    show Made.str ⟨((sliceRange ((z.length : Int) - 1) (-1) (-1)).filterMap (z.cps[·]?)).toArray⟩ = _
    rw [PySem.W.krv_sliceRange]
  rw [e0]
  have hl : (⟨(((List.range z.length).map fun k => z.length - 1 - k).filterMap (z.cps[·]?)).toArray⟩ : Str).length ≤ z.length := by
    show (((List.range z.length).map fun k => z.length - 1 - k).filterMap (z.cps[·]?)).toArray.size ≤ _
    rw [List.size_toArray]
    refine Nat.le_trans (List.length_filterMap_le _ _) ?_
    rw [List.length_map, List.length_range]
    exact Nat.le_refl _
  have hm : ∀ c ∈ (⟨(((List.range z.length).map fun k => z.length - 1 - k).filterMap (z.cps[·]?)).toArray⟩ : Str).cps.toList, c ∈ z.cps.toList := fun c hc => by
    have hc' : c ∈ ((List.range z.length).map fun k => z.length - 1 - k).filterMap (z.cps[·]?) := by simpa using hc
    obtain ⟨i, _, hi⟩ := List.mem_filterMap.mp hc'
    rw [← Array.getElem?_toList] at hi
    exact List.mem_of_getElem? hi
  exact ⟨Nat.le_trans hl hz, .str _, H4, I5.tok _, ⟨_, rfl⟩, q _ hl hm⟩
end
end R1
/-! two fors in a comprehension, by walks -/
namespace L2
open PySem PySem.Spec PyProof.Rows
set_option autoImplicit false
/-- the second for -/
def Inn (J1 : It) (g1 : TG) (tt1 : TT) (te : TE) (vs1 : List Nat) (D : Addr) (σ2 : St) (H4 : Hp) (Nx : Hp → Prop) : Prop :=
  ∃ W1 : Nat → Nat → Hp → Prop, (∃ m, W1 0 m H4) ∧ ∀ j k H, W1 j k H →
      (J1.stop j H ∧ Nx H) ∨ (J1.go j H ∧ ∃ Nx1 : Hp → Prop, (∀ H', Nx1 H' → ∃ k', k' < k ∧ W1 (j + 1) k' H') ∧ ∀ x H', J1.yld j H x H' → g1 x (wipe σ2 vs1) H' fun σ3 H5 => wipe σ3 vs1 = wipe σ2 vs1 ∧ tt1 σ3 H5 fun b H6 =>
        if b = true then te σ3 H6 fun y H7 => ∃ acc, H7 D = some (.lst acc) ∧ acc.length < sizeLine ∧ Nx1 (upd H7 D (.lst (acc ++ [y]))) else Nx1 H6)
section
variable {J J1 : It} {n n1 : Nat} {G G1 : Hp → Prop} {Y Y1 : Nat → Hp → V → Hp → Prop}
theorem inn_it (w : Walk J1 n1 G1 Y1) {g1 : TG} {tt1 : TT} {te : TE} {vs1 : List Nat} {D : Addr} {σ2 : St} {H4 : Hp} {Nx : Hp → Prop} (Pv : Nat → Hp → Prop) (h0 : Pv 0 H4) (hG : ∀ i H, i ≤ n1 → Pv i H → G1 H)
    (hs : ∀ j x H H', j < n1 → Pv j H → Y1 j H x H' → g1 x (wipe σ2 vs1) H' fun σ3 H5 => wipe σ3 vs1 = wipe σ2 vs1 ∧ tt1 σ3 H5 fun b H6 =>
        if b = true then te σ3 H6 fun y H7 => ∃ acc, H7 D = some (.lst acc) ∧ acc.length < sizeLine ∧ Pv (j + 1) (upd H7 D (.lst (acc ++ [y]))) else Pv (j + 1) H6)
    (hd : ∀ H, Pv n1 H → Nx H) : Inn J1 g1 tt1 te vs1 D σ2 H4 Nx := by
  refine ⟨fun i m H => m = n1 - i ∧ i ≤ n1 ∧ Pv i H, ⟨n1, by simp, Nat.zero_le _, h0⟩, ?_⟩
  rintro i m H ⟨rfl, hi, p⟩
  have q := hG i H hi p
  by_cases hlt : i < n1
  · refine .inr ⟨w.goes i H hlt q, Pv (i + 1), fun H' p' => ⟨n1 - (i + 1), by omega, rfl, hlt, p'⟩, fun x H' y => hs i x H H' hlt p (w.yields i H x H' hlt q y)⟩
  · have e : i = n1 := by omega
    subst e
    exact .inl ⟨w.stops H q, hd H p⟩
theorem lc2_it (w : Walk J n G Y) {g : TG} {tt : TT} {wi1 : TI} {g1 : TG} {tt1 : TT} {te : TE} {vs vs1 : List Nat} {σ : St} {H1 : Hp} {D : Addr} {Qd : Hp → Prop} (Pv : Nat → Hp → Prop) (h0 : Pv 0 (upd H1 D (.lst []))) (hG : ∀ i H, i ≤ n → Pv i H → G H)
    (hs : ∀ i x H H', i < n → Pv i H → Y i H x H' → g x (wipe σ vs) H' fun σ2 H2 => wipe σ2 vs = wipe σ vs ∧ tt σ2 H2 fun b H3 =>
      if b = true then wi1 σ2 H3 fun J1 H4 => Inn J1 g1 tt1 te vs1 D σ2 H4 (Pv (i + 1)) else Pv (i + 1) H3) (hd : ∀ H, Pv n H → Qd H) :
    ∃ W : Nat → Nat → Hp → Prop, (∃ m, W 0 m (upd H1 D (.lst []))) ∧ ∀ i m H, W i m H →
  (J.stop i H ∧ Qd H) ∨ (J.go i H ∧ ∃ Nx : Hp → Prop, (∀ H', Nx H' → ∃ m', m' < m ∧ W (i + 1) m' H') ∧ ∀ x H', J.yld i H x H' → g x (wipe σ vs) H' fun σ2 H2 => wipe σ2 vs = wipe σ vs ∧ tt σ2 H2 fun b H3 =>
    if b = true then wi1 σ2 H3 fun J1 H4 => ∃ W1 : Nat → Nat → Hp → Prop, (∃ m, W1 0 m H4) ∧ ∀ j k H, W1 j k H →
      (J1.stop j H ∧ Nx H) ∨ (J1.go j H ∧ ∃ Nx1 : Hp → Prop, (∀ H', Nx1 H' → ∃ k', k' < k ∧ W1 (j + 1) k' H') ∧ ∀ x H', J1.yld j H x H' → g1 x (wipe σ2 vs1) H' fun σ3 H5 => wipe σ3 vs1 = wipe σ2 vs1 ∧ tt1 σ3 H5 fun b H6 =>
        if b = true then te σ3 H6 fun y H7 => ∃ acc, H7 D = some (.lst acc) ∧ acc.length < sizeLine ∧ Nx1 (upd H7 D (.lst (acc ++ [y]))) else Nx1 H6)
    else Nx H3) := by
  refine ⟨fun i m H => m = n - i ∧ i ≤ n ∧ Pv i H, ⟨n, by simp, Nat.zero_le _, h0⟩, ?_⟩
  rintro i m H ⟨rfl, hi, p⟩
  have q := hG i H hi p
  by_cases hlt : i < n
  · refine .inr ⟨w.goes i H hlt q, Pv (i + 1), fun H' p' => ⟨n - (i + 1), by omega, rfl, hlt, p'⟩, fun x H' y => hs i x H H' hlt p (w.yields i H x H' hlt q y)⟩
  · have e : i = n := by omega
    subst e
    exact .inl ⟨w.stops H q, hd H p⟩
end
end L2
/-! an own error whose __init__ begins with super().__init__(..) -/
namespace EX
open PySem PySem.Spec PyProof.Rows L2 NdefX
set_option autoImplicit false
/-- what the written part says of the class, its __init__ and the cell of its class -/
structure SupC (P : Program) (K : PySem.W.Frag) (C fI cc : Addr) (F : NF) : Prop where
  oex : OexC K C
  cl : F.cl = [(("__class__" : Str), cc)]
  cd : PySem.W.codeIn K (.ref F.c) F.qual = true
  code : ∃ (ccl : Value) (cdd : Option Addr) (vs : Array Value) (ccs : Array (Option Value)) (file : Str) (tf : Tok), K.lookup F.c = some (⟨ccl, cdd, .fields vs, ccs⟩ : Obj) ∧ vs[2]? = some (Value.str file tf) ∧ ((P.main.file : Str) == file) = true
  cell : ∃ (cl : Value) (cld : Option Addr) (csl : Array (Option Value)), K.lookup cc = some (⟨cl, cld, .cell (some (.ref C)), csl⟩ : Obj)
  top : (P.main.scope.names.lookup ("super" : Str)).isSome = false
  opq : PySem.W.nsIn K cStatics "thirdparty.any" = some none
  ini : PySem.W.ks_superIn K C C "__init__" = some (some (.builtin "ValueError.__init__"))
  ve : PySem.W.subIn K (.ref C) (.type "ValueError") = some true
  own : PySem.W.mroIn K C (.ref C) = some true
section
variable {X : Cx} {pins : List (Addr × Obj)} {σ : L2.St} {H : Hp} {s : Shared}
/-- the bound __init__ is called -/
theorem call_mw {A : Around} {E : Value → Shared → Prop} {a C u : Addr} {us : List Value} {Q : Value → Shared → Prop} (T : OexC X.K C) (I : Inv X pins σ H s) (e : H a = some (exo a C none)) (hu : s.heap.get? u = some (PySem.W.kxs_mw "ValueError.__init__" a)) (hl : us.length ≤ sizeLine) (h : ∀ s', Inv X pins σ H s' → Q .none s') :
    wpAny (model X.prog X.w) A (call (.ref u) us) Q E s := by
  obtain ⟨nm, q, N, bs, bm, sn, sub, ab, col, dd, k0, k1, k2, k3, k5, hC, hbm⟩ := T.cls
  have hC' := I.kIn _ _ hC
  obtain ⟨t1, ho⟩ := exo_at I.hok e
  obtain ⟨hp, g, d, t, os⟩ := s
  refine wpAny_call (codeAny_of_tree ?_)
  show wpAny _ A.in1 (callAny (.ref u) ⟨us, []⟩) _ _ _
  simp only [callAny]
  refine wpAny_bind (wpAny_load hu ?_)
  simp only [PySem.W.kxs_mw, show (Value.type "method-wrapper" == Value.type "method" || Value.type "method-wrapper" == Value.type "builtin_function_or_method" || Value.type "method-wrapper" == Value.type "method-wrapper") = true by decide, if_true]
  refine PySem.W.KFB.if_so (by decide) ?_
  refine wpAny_bind (PySem.W.check_bound_init F.excBase_ValueError.toExcCallFacts hC' ho rfl ?_)
  refine wpAny_bind (wpAny_pure (wpAny_pure ?_))
  refine ⟨plainId_quiet F.excBase_ValueError.init.plain _, codeAny_builtin F.excBase_ValueError.initEntry ?_⟩
  refine PySem.W.exc_init_tree (cls := .ref C) (t0 := t1) (dv := none) (c2 := .none) (c3 := .none) (b4 := .bool false) ho hl fun h' k hx _ => ?_
  have J := I.write (t' := t) (x := a) (e := a) (o := exo a C none) (by rw [e]; exact True.intro) (.inl rfl) k ⟨_, hx⟩ (exo_ok hx)
  have eu : upd H a (exo a C none) = H := by
    funext b
    by_cases hb : b = a
    · rw [hb, upd_same, e]
    · rw [upd_ne hb]
  rw [eu] at J
  exact h _ J
/-- THE RULE: an __init__ of an own error, its first statement super().__init__(msg) -/
theorem sup_ok {CX : CXT} {P : Program} {w : World} {K : PySem.W.Frag} {mg : Str → Option Value} {base : Heap} {k : Nat} {C fI cc : Addr} {F : NF} {N : List Str} {fl : Str} {msg : Expr} {rest : List Stmt} {p0 p1 p2 p3 p4 : Pos} {oc doc pm ctv : Value} {od : Option Addr} {osl : Array (Option Value)} {ar : Arg} {sp : Sp} {pl : Addr → Sem Bool}
    (T : SupC P K C fI cc F) (lk : K.lookup fI = some ⟨oc, od, .func (F.fd doc pm ctv), osl⟩) (hm : mg "super" = none) (S : NScope N ["self", fl] ["__class__"] F.scope)
    (hbody : F.body = .Expr (.Call (.Attribute (.Call (.Name "super" p0) [] [] p1) "__init__" p2) [msg] [] p3) p4 :: rest)
    (hpar : (F.params.posonlyargs ++ F.params.args).head? = some ar) (har : ar.arg = "self") (hks : F.scope.names.lookup ("super" : Str) = some .globalImplicit)
    (len : ∀ vs H Q E, sp vs H Q E → vs.length = 2)
    (h : ∀ (A : Around) (outer : List Env) (s : Shared) (H : Hp) (vs : List V) (Q : VK) (E : XK), Room k (A.deeper (envF F fI s.heap.objs.size)) → sp vs H Q E →
      ∃ (a : Addr) (y : V) (tm : TE) (t2 : TS), vs = [.ref a, y] ∧ H a = some (exo a C none) ∧ PE (ncx CX P w K mg base N F fI A outer s H E) msg tm ∧ PSs (ncx CX P w K mg base N F fI A outer s H E) rest t2 ∧
        tm (startF N vs [none]) H fun v H1 => [v].length = 1 ∧ H1 a = some (exo a C none) ∧ t2 { nx := fun _ H' => Q .non H', rt := Q } (startF N vs [none]) H1)
    (he : ∀ L : Addr, eval (.Call (.Attribute (.Call (.Name "super" p0) [] [] p1) "__init__" p2) [msg] [] p3) (envF F fI L) = (do
      let ov ← attributeBase (.Call (.Name "super" p0) [] [] p1) "__init__" (envF F fI L) (eval (.Call (.Name "super" p0) [] [] p1) (envF F fI L))
      standAt p2.atName
      let (f, first) ← holding [ov] (getMethod ov "__init__" (pl L))
      callWith p3 f first (backTo p3 (starEach [msg] (envF F fI L))) []))
    (hst : ∀ L : Addr, starEach [msg] (envF F fI L) = (false, eval msg (envF F fI L)) :: starEach [] (envF F fI L))
    (hsw : ∀ L : Addr, swapsWith (.Call (.Attribute (.Call (.Name "super" p0) [] [] p1) "__init__" p2) [msg] [] p3) none p4.line (envF F fI L) = pure false) :
    FnOk P w K mg base CX (k + 1) fI (F.fd doc pm ctv) ["self", fl] sp := by
  refine ⟨len, fun A outer s H args us vs Q E hr e0 hb r hsp => ?_⟩
  have hl := len _ _ _ _ hsp
  have KX : K.In s.heap := e0.mod.kin.keeps fun b o e => (e0.bs b o e).1
  have lim : s.heap.NoLimit := e0.mod.nolimit.keeps fun b o e => (e0.bs b o e).1
  obtain ⟨ccl, cdd, vsC, ccs, file, tf, hcode, hvs, hfile⟩ := T.code
  obtain ⟨cl1, cld, csl, hcell⟩ := T.cell
  have hcl : F.cl.lookup ("__class__" : Str) = some cc := by rw [T.cl]; rfl
  have hclA : ∀ y c, F.cl.lookup y = some c → y = ("__class__" : Str) ∧ c = cc := fun y c e => by
    rw [T.cl] at e
    by_cases hy : y = ("__class__" : Str)
    · subst hy
      exact ⟨rfl, (Option.some.inj e).symm⟩
    · have hb : (y == ("__class__" : Str)) = false := beq_false_of_ne hy
      simp only [List.lookup, hb] at e
      cases e
  have CA : CellsAt F.cl ["__class__"] [none] s.heap H := {
    len := rfl
    all := fun y c e => by
      obtain ⟨_, rfl⟩ := hclA y c e
      have hbk := e0.mod.kin _ _ hcell
      exact ⟨(e0.bs _ _ hbk).2, _, _, (e0.bs _ _ hbk).1, rfl⟩
    inj := fun x y c e1 e2 => (hclA x c e1).1.trans (hclA y c e2).1.symm
    has := fun i y e => by
      cases i with
      | zero =>
        have ey : y = ("__class__" : Str) := (Option.some.inj e).symm
        subst ey
        exact ⟨cc, hcl, fun v ev => by cases ev⟩
      | succ i => cases e }
  refine codeAny_call_function hr.depth (KX _ _ lk) rfl S.co S.gen rfl (PySem.W.codeRec_of KX T.cd) (hb _ _ _ _ ?_)
  refine wpAny_newFunctionEnv S.nocell (fun ⟨n, _⟩ hy => S.par n (List.of_mem_zip hy).1) (fun h₁ hns hsb => ⟨lim.fresh _ hsb, ?_⟩) S.kind
  show codeAny _ _ (.func F.body (envF F fI s.heap.objs.size)) _ _
  refine ks_codeAny_funcAt ?_
  have kp : ∀ b o, s.heap.get? b = some o → h₁.get? b = some o := fun b o e => hsb.extBut b o (Nat.ne_of_lt (Heap.lt_size e)) (Heap.get?_push_of_some _ e)
  obtain ⟨a, y, tm, t2, ev, ha, hm1, h2, hq⟩ := h A outer s H vs Q E (hr.deeper _) hsp
  have I : Inv (ncx CX P w K mg base N F fI A outer s H E) [] (startF N vs [none]) H { s with heap := h₁, toks := s.toks + (([("self" : Str), fl] : List Str).zip us).length } := inv_startN S hr.hd e0 hl r CA hns kp
  generalize hs1 : ({ s with heap := h₁, toks := s.toks + (([("self" : Str), fl] : List Str).zip us).length } : Shared) = s1 at I ⊢
  have KX1 : K.In s1.heap := I.kIn
  obtain ⟨nm, q, NN, bs, bm, sn, sub, ab, col, dd, k0, k1, k2, k3, k5, hC, hbm⟩ := T.oex.cls
  have hC1 := KX1 _ _ hC
  obtain ⟨t1, ho⟩ := exo_at I.hok ha
  have hne : a ≠ C := fun e => by
    rw [e, hC1] at ho
    cases ho
  rw [show execs F.body (envF F fI s.heap.objs.size) = execs (.Expr (.Call (.Attribute (.Call (.Name "super" p0) [] [] p1) "__init__" p2) [msg] [] p3) p4 :: rest) (envF F fI s.heap.objs.size) by rw [hbody]]
  refine ks_wpAt_execs_cons (ks_wpAt_Expr_any (ks_wpAt_MethodCall (pl := pl s.heap.objs.size) (ks_wpAt_super_base (env := envF F fI s.heap.objs.size) hks (S.frk "__class__" (List.mem_singleton.mpr rfl)) (by decide) rfl (KX1 _ _ lk) rfl hpar rfl (KX1 _ _ hcode) rfl hvs hfile T.top ?_) (he _)) I.quiet (hsw _))
  obtain ⟨mb, hb1, hb2⟩ := I.mod.blt
  refine PySem.W.ks_loadName_global S.kind hks (PySem.Calls.loadGlobal_builtin (I.mod.glob.keeps I.bk) hm (hb1.keeps I.bk) ((hb2 "super" (by decide)).trans (by decide +kernel : bootBuiltins "super" = some (.type "super"))) ⟨rfl, ?_⟩)
  refine wpAny_loadName_free S.kind (S.frk "__class__" (List.mem_singleton.mpr rfl)) hcl ⟨_, KX1 _ _ hcell, rfl⟩ ?_
  rw [har]
  have hself : F.scope.names.lookup ("self" : Str) = some .local := S.par "self" (List.mem_cons_self ..)
  obtain ⟨m, hnsM, hsl⟩ := I.loc
  have hN0 : N[(0 : Nat)]? = some ("self" : Str) := by
    have e := S.pre
    cases N with
    | nil => cases e
    | cons n N =>
      have e2 : n :: N.take 2 = ("self" : Str) :: [fl, "__class__"] := e
      rw [List.cons.injEq] at e2
      rw [e2.1]
      rfl
  have hms : m ("self" : Str) = some (.ref a) := by
    obtain ⟨u, ru, lu⟩ := hsl 0 "self" (.ref a) hN0 (by rw [ev]; rfl) (.inl hself)
    obtain rfl : u = Value.ref a := ru
    rcases lu with lu | ⟨lu, _⟩
    · exact lu.2
    · rw [show (ncx CX P w K mg base N F fI A outer s H E).env.kindOf "self" = some .local from hself] at lu
      rcases lu with z | z <;> cases z
  refine wpAny_loadName_local S.kind hself hnsM hms ?_
  obtain ⟨hp1, g1, d1, tk1, os1⟩ := s1
  refine ks_wpAny_isType_cls hC1 rfl ⟨rfl, ?_⟩
  refine ks_wpAny_call_super hC1 rfl ho rfl (fun c e => by cases e) (PySem.W.looks_mroIn KX1 T.own) (fun h' e kk => ?_)
  have I2 := I.kept (t' := tk1) kk
  have KX2 : K.In h' := I2.kIn
  have hC2 := KX2 _ _ hC
  have ho2 := kk _ _ ho
  have hcls : PySem.W.clsIn K C = some { name := nm, bases := bs, mro := .ref C :: bm, ns := NN, qualname := q, hasDict := true, slotNames := sn, subclasses := sub, abstract := ab, collection := col, hasDel := false } := by
    unfold PySem.W.clsIn
    rw [hC] <;> rfl
  have hini := T.ini
  unfold PySem.W.ks_superIn at hini
  rw [hcls, Option.bind_some] at hini
  have Ia : PySem.W.InstAt h' a _ C none := ⟨ho2, rfl, rfl, trivial⟩
  refine PySem.W.kxs_getMethod PySem.W.kxs_ValueError e (PySem.W.looks_opaque KX2 T.opq) (l₀ := .ref C :: bm) (fun A Q E s k q => wpAny_bind ((PySem.W.looks_clsIn KX2 hcls) A _ E s k (wpAny_pure q))) rfl KX2 hini (Ia.type.andThen (PySem.W.looks_subIn KX2 T.ve)) hne (by decide) ?_
  have kp3 : ∀ b o, h'.get? b = some o → (h'.push (PySem.W.kxs_mw "ValueError.__init__" a)).get? b = some o := fun b o e => Heap.get?_push_of_some _ e
  have I3 := I2.kept (h' := h'.push (PySem.W.kxs_mw "ValueError.__init__" a)) (t' := tk1 + 1) kp3
  have hu3 : (h'.push (PySem.W.kxs_mw "ValueError.__init__" a)).get? h'.objs.size = some (PySem.W.kxs_mw "ValueError.__init__" a) := Heap.get?_push_at rfl rfl
  have I4 : Inv (ncx CX P w K mg base N F fI A outer s H E) [(h'.objs.size, PySem.W.kxs_mw "ValueError.__init__" a)] (startF N vs [none]) H _ := I3.pins_of fun p hp => by
    rw [List.mem_singleton.mp hp]
    exact ⟨hu3, I2.hok.fresh (Nat.le_refl _), Nat.ne_of_gt I2.lt, I2.nofs (Nat.le_refl _), fun v z => by cases z⟩
  have ha1 : PA (ncx CX P w K mg base N F fI A outer s H E) [msg] _ := pa_cons hm1 pa_nil (hst _)
  have hst' := hst s.heap.objs.size
  refine PySem.W.kxs_callWith (i := "ValueError.__init__") (x := a) (by rw [hst']; rfl) ?_
  rw [hst']
  refine PySem.Calls.evalArgs_plain ?_
  have hrun := ha1.run p3 _ _ (startF N vs [none]) H (fun vs' H1 => vs'.length = 1 ∧ H1 a = some (exo a C none) ∧ t2 { nx := fun _ H' => Q .non H', rt := Q } (startF N vs [none]) H1) I4 ?_
  · have hst2 : backTo p3 (starEach [msg] (ncx CX P w K mg base N F fI A outer s H E).env) = backTo p3 ((false, eval msg (envF F fI s.heap.objs.size)) :: starEach [] (envF F fI s.heap.objs.size)) := congrArg (backTo p3) hst'
    rw [hst2] at hrun
    refine wpAny_mono hrun (fun ws s2 hw => ?_) fun e s' he => he
    obtain ⟨vs', H1, J, rv, hlen, ha2, hq2⟩ := hw
    have hu := (J.pin _ (List.mem_append_right _ (List.mem_singleton.mpr rfl))).1
    refine ⟨hu, ?_⟩
    have J0 : Inv (ncx CX P w K mg base N F fI A outer s H E) [] (startF N vs [none]) H1 s2 := J.pins_of fun p hp => by cases hp
    refine call_mw T.oex J0 ha2 hu (by
      show ws.length ≤ _
      rw [← rv.length, hlen, sizeLine_eq]; decide) fun s3 J3 => ?_
    refine wpAt_of_wpAny ?_
    refine wpAny_mono (h2.run [] s3 _ H1 _ J3 hq2) (fun fl s' hs => ?_) fun e s' hs => hs
    have fin : ∀ {σ' : L2.St} {H' : Hp} {v : V} {u : Value}, Inv (ncx CX P w K mg base N F fI A outer s H E) [] σ' H' s' → L2.RelV v u → Q v H' → CE outer P w H s Q u s' :=
      fun {σ' H' v u} J rv q => ⟨v, H', J.os, J.bare, J.base, J.hok, rv, q⟩
    cases fl with
    | ret u =>
      obtain ⟨v, σ', H', J, rv, q⟩ := hs
      exact fin J rv q
    | next =>
      obtain ⟨σ', H', J, q⟩ := hs
      exact fin (v := V.non) (u := Value.none) J rfl q
    | brk =>
      obtain ⟨_, _, _, q⟩ := hs
      exact False.elim q
    | cont =>
      obtain ⟨_, _, _, q⟩ := hs
      exact False.elim q
  · exact hq
end
end EX
/-! own errors: made, their fields, isinstance of them -/
namespace EX
open PySem PySem.Spec PyProof.Rows L2 NdefX
set_option autoImplicit false
section
variable {X : Cx}
/-- {x}: a text, an int or None, as a text that is not told -/
def MsgOk (x : V) : Prop := (∃ y : Str, x = .str y ∧ y.length ≤ 1000) ∨ (∃ i : Int, x = .int i ∧ i.natAbs.log2 < 1920) ∨ x = .non
def tFmtN (te : TE) : TE := fun σ H Q => te σ H fun x H1 => MsgOk x ∧ ∀ y : Str, y.length ≤ 10000 → Q (.str y) H1
theorem int_text {i : Int} (h : i.natAbs.log2 < 1920) : (Str.ofString (toString i)).length ≤ 10000 := by
  have e := int_text_length_le (k := 1920) (by decide) h
  rw [PySem.ofString_length]
  omega
theorem pe_fmtN {e : Expr} {te : TE} {pos : Pos} (he : PE X e te) : PE X (.FormattedValue e (-1) none pos) (tFmtN te) := by
  refine ⟨fun pins s σ H Q I h => ?_⟩
  refine wpAny_FormattedValue_plain (thn (he.run pins s σ H _ I h) fun v s1 hv => ?_)
  obtain ⟨x, H1, I1, r1, q, k⟩ := hv
  rcases q with ⟨y, rfl, hz⟩ | ⟨i, rfl, hz⟩ | rfl
  · obtain ⟨t, rfl⟩ := r1
    have q := k y (by omega)
    exact wpAny_formatField_str ⟨.str y, H1, I1, ⟨t, rfl⟩, q⟩ ⟨.str y, H1, I1.tok _, ⟨_, rfl⟩, q⟩ (by rw [sizeLine_eq]; omega)
  · obtain ⟨t, rfl⟩ := r1
    exact wpAny_formatField_int hz ⟨.str (toString i), H1, I1.tok _, ⟨_, rfl⟩, k _ (int_text hz)⟩
  · obtain rfl : v = Value.none := r1
    exact wpAny_formatField_none ⟨.str "None", H1, I1.tok _, ⟨_, rfl⟩, k "None" (by decide)⟩
/-- one argument, its end weakened -/
theorem pa_one {e : Expr} {te : TE} (he : PE X e te) (hs : starEach [e] X.env = (false, eval e X.env) :: starEach [] X.env := by rfl) : PA X [e] (fun σ H Q => ∃ Q0 : VK, te σ H Q0 ∧ ∀ y H1, Q0 y H1 → Q [y] H1) := by
  have h1 : PA X [e] _ := pa_cons he pa_nil hs
  refine ⟨fun pos pins s σ H Q I h => ?_⟩
  obtain ⟨Q0, h0, k⟩ := h
  have h2 := h1.run pos pins s σ H (fun vs H1 => ∃ y, vs = [y] ∧ Q0 y H1) I ?_
  · refine thn h2 fun us s1 hh => ?_
    obtain ⟨vs, H1, J, rv, y, rfl, q⟩ := hh
    exact ⟨[y], H1, J, rv, k y H1 q⟩
  · have e2 : (fun (x : V) (H1 : Hp) => ∃ y, [x] = [y] ∧ Q0 y H1) = Q0 := by
      funext x H1
      exact propext ⟨fun ⟨y, e, q⟩ => by cases e; exact q, fun q => ⟨x, rfl, q⟩⟩
    show te σ H (fun (x : V) (H1 : Hp) => ∃ y, [x] = [y] ∧ Q0 y H1)
    rw [e2]
    exact h0
end
/-! ### the class -/
def oexB (K : PySem.W.Frag) (C : Addr) : Bool := match K.lookup C with
  | some ⟨.type "type", _, .cls cd, sl⟩ => (match cd.mro, sl.toList with
    | .ref C' :: bm, [_, _, _, _, some (.builtin n), _] => C' == C && n == "ValueError.__new__" && !cd.hasDel && cd.hasDict && PySem.HandSPX.refsVE bm
    | _, _ => false)
  | _ => false
theorem oexB_ok {K : PySem.W.Frag} {C : Addr} (q : oexB K C = true) : ∃ nm q N bs bm sn sub ab col dd k0 k1 k2 k3 k5, K.lookup C = some (excClassObj nm q C N bs bm true sn sub ab col dd k0 k1 k2 k3 k5 "ValueError.__new__") ∧ PySem.HandSPX.refsVE bm = true := by
  unfold oexB at q
  split at q
  · rename_i dd cd sl ho
    split at q
    · rename_i C' bm k0 k1 k2 k3 n k5 hm hs
      simp only [Bool.and_eq_true, beq_iff_eq, Bool.not_eq_true'] at q
      obtain ⟨⟨⟨⟨rfl, rfl⟩, hdel⟩, hh⟩, ht⟩ := q
      obtain ⟨nm, bs, mro, ns, qn, hd, sn, sub, ab, col, del⟩ := cd
      dsimp only at hm hdel hh
      subst hm hdel hh
      have hsl : sl = #[k0, k1, k2, k3, some (.builtin "ValueError.__new__"), k5] := by
        obtain ⟨l⟩ := sl
        simp only at hs
        rw [hs]
      subst hsl
      exact ⟨nm, qn, ns, bs, bm, sn, sub, ab, col, dd, k0, k1, k2, k3, k5, ho, ht⟩
    · cases q
  · cases q
/-- an own error's class -/
structure ErrC (K : PySem.W.Frag) (C : Addr) : Prop where
  oex : OexC K C
  xf : XfC K C
  ha : PySem.W.findIn K (.ref C) "__class__" = some (some (.builtin "object.__class__"))
  hn : PySem.W.specialIn K (.builtin "object.__class__") "__get__" = some (some (.builtin "getset_descriptor.__get__"))
  ht : PySem.W.takesIn K (.builtin "object.__class__") = some true
  hm : PySem.W.mroIn K C (.type "object") = some true
def errB (K : PySem.W.Frag) (C : Addr) : Bool := oexB K C && (decide (PySem.W.findIn K (.ref C) "__setattr__" = some (some (.builtin "object.__setattr__"))) && (decide (PySem.W.subIn K (.ref C) (.type "BaseException") = some true) && (decide (PySem.W.typeIn K (.ref C) = some (.type "type")) && (PySem.W.keepIn K (.ref C) && (xfB K C &&
  (decide (PySem.W.findIn K (.ref C) "__class__" = some (some (.builtin "object.__class__"))) && (decide (PySem.W.specialIn K (.builtin "object.__class__") "__get__" = some (some (.builtin "getset_descriptor.__get__"))) && (decide (PySem.W.takesIn K (.builtin "object.__class__") = some true) && decide (PySem.W.mroIn K C (.type "object") = some true)))))))))
theorem errB_ok {K : PySem.W.Frag} {C : Addr} (h : errB K C = true) : ErrC K C := by
  unfold errB at h
  simp only [Bool.and_eq_true, decide_eq_true_eq] at h
  obtain ⟨h1, h2, h3, h4, h5, h6, h7, h8, h9, h10⟩ := h
  exact ⟨⟨oexB_ok h1, h2, h3, h4, h5⟩, xfB_ok h6, h7, h8, h9, h10⟩
/-! ### a caught error: its fields, isinstance -/
def tXfE (K : PySem.W.Frag) (a : Addr) (cls : Value) (d : Option Addr) (f : Str) (te : TE) : TE := fun σ H Q => te σ H fun x H1 => ∃ C : Addr, x = .ref a ∧ cls = .ref C ∧ ErrC K C ∧ PySem.W.findIn K (.ref C) f = some none ∧ ∃ (dd : Addr) (fs : List (Str × V)) (v : V), d = some dd ∧ H1 dd = some (.xd fs) ∧ fs.lookup f = some v ∧ Q v H1
theorem pe_xfE {X : Cx} {a : Addr} {oe : Obj} {cls : Value} {d : Option Addr} {pn : List (Addr × Obj)} {e : Expr} {te : TE} {pos : Pos} {n : Str}
    (hz : Zc cls d oe) (hf : ∃ vs, oe.data = .fields vs) (he : PE (X.suite a ((a, oe) :: pn)) e te) (hb : attributeBase e n X.env (eval e X.env) = eval e X.env := by rfl) :
    PE (X.suite a ((a, oe) :: pn)) (.Attribute e n pos) (tXfE X.K a cls d n te) := by
  refine ⟨fun pins s σ H Q I h => ?_⟩
  refine attr_of hb (thn (he.run pins s σ H _ I h) fun u s1 hh => ?_)
  obtain ⟨x, H1, I1, rx, C, ex, ec, T, hno, dd, fs, v, ed, ea, l, q⟩ := hh
  subst ex
  obtain rfl : u = Value.ref a := rx
  subst ec
  subst ed
  obtain ⟨ha, _⟩ := I1.pin (a, oe) (List.mem_append_left _ List.mem_cons_self)
  obtain ⟨vs, hd⟩ := hf
  have hx : ObjOk X.prog X.w H1 s1.heap dd (.xd fs) := I1.hok dd _ ea
  obtain ⟨mA, hns, hr⟩ := hx
  obtain ⟨od, ho, hl⟩ := lookIn_ns hns
  obtain ⟨u, hu, ru⟩ := RelO.some_of (v := v) (o := mA n) (by rw [← l]; exact hr n)
  have J : PySem.W.InstAt s1.heap a oe C (some od) := ⟨ha, hz.1, by unfold PySem.W.notCls; rw [hd] <;> rfl, by rw [hz.2]; exact ho⟩
  exact HandSPX.exc_get I1.kIn J T.xf.ga T.xf.gg T.xf.exC (PySem.W.findObj_own T.xf.hdC hno rfl (by rw [hl, hu])) (handed_of ru) ⟨v, H1, I1.tok _, ru, q⟩
theorem kit_err {K : PySem.W.Frag} {C x : Addr} {ox : Obj} {od : Option Obj} (T : ErrC K C) : PySem.W.KitX K (.ref x) (.ref C) (fun h => PySem.W.InstAt h x ox C od) := by
  have hf : PySem.W.findObj K C od "__class__" = some (.bind (.builtin "getset_descriptor.__get__") (.builtin "object.__class__")) := PySem.W.findObj_dataE (by obtain ⟨cd, hc, _⟩ := PySem.W.any_some T.xf.hdC; rw [hc]; rfl) T.ha T.hn T.ht
  exact {
    ty := fun _ _ _ I => I.type
    it := fun _ _ X _ => by
      obtain ⟨cdD, hcD, _⟩ := PySem.W.any_some T.xf.hdC
      unfold PySem.W.clsIn at hcD
      split at hcD
      · rename_i c' d' cd' sl' ho
        intro A' Q' E' s' k q
        unfold isType loadHead
        exact wpAny_bind (wpAny_loadPart (k _ _ (X _ _ ho)) (wpAny_pure q))
      · cases hcD
    ne := fun h tp dd its n sl X htp => by
      obtain ⟨cdD, hcD, _⟩ := PySem.W.any_some T.xf.hdC
      refine Bool.eq_false_iff.mpr fun q => ?_
      have e : C = tp := Value.ref.inj (beq_iff_eq.mp q)
      subst e
      unfold PySem.W.clsIn at hcD
      split at hcD
      · rename_i c' d' cd' sl' ho
        have z := (X _ _ ho).symm.trans htp
        cases z
      · cases hcD
    ca := fun X I k => PySem.W.kx_classE X I T.xf.ga T.xf.gg T.xf.exC hf T.hm k }
/-- isinstance(e, c), e the exception that the suite holds -/
def rIsX (K : PySem.W.Frag) (a : Addr) (cls : Value) (d : Option Addr) : List V → Hp → VK → Prop := fun xs H Q => ∃ (C : Addr) (c : V) (cv : Value) (b : Bool), xs = [.ref a, c] ∧ cls = .ref C ∧ ErrC K C ∧ (∀ dd, d = some dd → ∃ fs, H dd = some (.xd fs)) ∧ (∀ u, RelV c u → u = cv) ∧ PySem.W.kitOne K (.ref C) cv = some b ∧ Q (.bl b) H
theorem inst_err {X : Cx} {pins pn : List (Addr × Obj)} {σ : L2.St} {H : Hp} {s : Shared} {a C : Addr} {oe : Obj} {d : Option Addr} (I : Inv (X.suite a ((a, oe) :: pn)) pins σ H s) (hz : Zc (.ref C) d oe) (hf : ∃ vs, oe.data = .fields vs) (hd : ∀ dd, d = some dd → ∃ fs, H dd = some (.xd fs)) : ∃ od, PySem.W.InstAt s.heap a oe C od := by
  obtain ⟨hget, _⟩ := I.pin (a, oe) (List.mem_append.mpr (.inl List.mem_cons_self))
  obtain ⟨vs, hv⟩ := hf
  cases d with
  | none => exact ⟨none, hget, hz.1, by unfold PySem.W.notCls; rw [hv] <;> rfl, by rw [hz.2]; trivial⟩
  | some dd =>
    obtain ⟨fs, e⟩ := hd dd rfl
    have hx : ObjOk X.prog X.w H s.heap dd (.xd fs) := I.hok dd _ e
    obtain ⟨mA, hns, hr⟩ := hx
    obtain ⟨od, ho, hl⟩ := lookIn_ns hns
    exact ⟨some od, hget, hz.1, by unfold PySem.W.notCls; rw [hv] <;> rfl, by rw [hz.2]; exact ho⟩
theorem call_isX {X : Cx} {a : Addr} {oe : Obj} {cls : Value} {d : Option Addr} {pn : List (Addr × Obj)} (hz : Zc cls d oe) (hf : ∃ vs, oe.data = .fields vs) : CallR (X.suite a ((a, oe) :: pn)) (.builtin "isinstance") (rIsX X.K a cls d) := by
  intro pins s σ H xs us Q I r h
  obtain ⟨C, c, cv, b, rfl, rfl, T, hd, hcv, e, q⟩ := h
  cases r with
  | cons rx rr =>
    cases rr with
    | cons rt rr =>
      cases rr
      cases rx
      have ec := hcv _ rt
      subst ec
      obtain ⟨od, J⟩ := inst_err I hz hf hd
      exact PySem.W.kia_one (kit_err T) I.kIn J e (fun z => nomatch z) fun tk => ⟨.bl b, H, I.kept (t' := tk) fun _ _ z => z, rfl, q⟩
/-- isinstance(e, (c, ..)) -/
def rIsXT (K : PySem.W.Frag) (a : Addr) (cls : Value) (d : Option Addr) : List V → Hp → VK → Prop := fun xs H Q => ∃ (C t : Addr) (cs : List V) (cvs : List Value) (b : Bool), xs = [.ref a, .ref t] ∧ cls = .ref C ∧ ErrC K C ∧ (∀ dd, d = some dd → ∃ fs, H dd = some (.xd fs)) ∧ H t = some (.tup cs) ∧ (∀ us, Vals cs us → us = cvs) ∧ PySem.W.kitAny K (.ref C) cvs = some b ∧ Q (.bl b) H
theorem call_isXT {X : Cx} {a : Addr} {oe : Obj} {cls : Value} {d : Option Addr} {pn : List (Addr × Obj)} (hz : Zc cls d oe) (hf : ∃ vs, oe.data = .fields vs) : CallR (X.suite a ((a, oe) :: pn)) (.builtin "isinstance") (rIsXT X.K a cls d) := by
  intro pins s σ H xs us Q I r h
  obtain ⟨C, t, cs, cvs, b, rfl, rfl, T, hd, ht, hcv, e, q⟩ := h
  cases r with
  | cons rx rr =>
    cases rr with
    | cons rt rr =>
      cases rr
      cases rx
      cases rt
      obtain ⟨od, J⟩ := inst_err I hz hf hd
      have hx : ObjOk X.prog X.w H s.heap t (.tup cs) := I.hok t _ ht
      obtain ⟨hl, its, hv, ⟨oc, od', dt, sl⟩, ho, hc, n, hd2⟩ := hx
      dsimp only at hc hd2
      subst hc hd2
      have eI := hcv _ hv
      subst eI
      exact PySem.W.kia_tup (kit_err T) I.kIn J ho e (fun z => nomatch z) fun tk => ⟨.bl b, H, I.kept (t' := tk) fun _ _ z => z, rfl, q⟩
/-! ### an error is made -/
/-- what __init__ promises -/
def spErr (C : Addr) (fl : Str) (ok : V → Prop) : Sp := fun vs H Q _ => ∃ (a : Addr) (y : V), vs = [.ref a, y] ∧ H a = some (exo a C none) ∧ ok y ∧ ∀ dx, H dx = none → dx ≠ a → Q .non (upd (upd H dx (exd dx [(fl, y)])) a (exo a C (some dx)))
/-- C(e): the class, its dict with the one field -/
def tMkE (C : Addr) (fl : Str) (ok : V → Prop) (te : TE) : L2.St → Hp → XK → Prop := fun σ H Q => te σ H fun y H1 => ok y ∧ ∀ d, H1 d = none → Q (.ref C) (some d) (upd H1 d (.xd [(fl, y)]))
theorem pmk_err {X : Cx} {x fl : Str} {ok : V → Prop} {C fI : Addr} {fd : FuncData} {k : Nat} {e : Expr} {te : TE} {p pos : Pos} (T : ErrC X.K C) (iC : PySem.W.findIn X.K (.ref C) "__init__" = some (some (.ref fI))) (tI : PySem.W.typeIn X.K (.ref fI) = some (.type "function"))
    (F1 : FnOk X.prog X.w X.K X.mg X.base CX0 k fI fd ["self", fl] (spErr C fl ok)) (hr : Room (k + 1) X.A) (hb : Binds X.K fd ["self", fl] []) (hg : Gl X x) (hm : X.mg x = some (.ref C)) (he : PE X e te)
    (hdb : (x == ("__debug__" : Str)) = false := by decide) (hs : starEach [e] X.env = (false, eval e X.env) :: starEach [] X.env := by rfl) : PMk X (.Call (.Name x p) [e] [] pos) (tMkE C fl ok te) := by
  intro pins s σ H Q I h
  have h0 := pmk_oex (p := p) (pos := pos) T.oex iC tI F1 hr hb .nil pass0 hg hm (pa_one he hs) hdb hs (by rfl)
  refine h0 pins s σ H Q I ⟨_, h, fun y H1 ⟨oky, k⟩ => ⟨by show 1 ≤ 1000; decide, fun a na => ⟨a, y, rfl, upd_same, oky, fun dx ndx ne => ?_⟩⟩⟩
  have n1 : H1 dx = none := by
    rw [upd_ne ne] at ndx
    exact ndx
  refine ⟨rfl, dx, [(fl, y)], upd_same, (upd_ne ne).trans upd_same, n1, ?_⟩
  have eh : upd (del (upd (upd (upd H1 a (exo a C none)) dx (exd dx [(fl, y)])) a (exo a C (some dx))) a) dx (.xd [(fl, y)]) = upd H1 dx (.xd [(fl, y)]) := by
    funext b
    by_cases h1 : b = dx
    · rw [h1, upd_same, upd_same]
    · rw [upd_ne h1, upd_ne h1]
      by_cases h2 : b = a
      · rw [h2, del_same, na]
      · rw [del_ne h2, upd_ne h2, upd_ne h1, upd_ne h2]
  rw [eh]
  exact k dx n1
/-- C(), no own __init__ -/
theorem pmk_err0 {X : Cx} {x : Str} {C : Addr} {p pos : Pos} (q : PySem.W.excIn X.K C He.veBase "ValueError.__new__" = true) (T : ErrC X.K C) (hg : Gl X x) (hm : X.mg x = some (.ref C))
    (hdb : (x == ("__debug__" : Str)) = false := by decide) : PMk X (.Call (.Name x p) [] [] pos) (fun _ H Q => Q (.ref C) none H) := by
  intro pins s σ H Q I h
  refine wpAny_Call_Name_kw (ld_glob I hg hm ?_ hdb)
  refine PySem.W.callWith_K0 I.kIn T.oex.kC ?_
  obtain ⟨bm, N, nm, qn, bs, hdct, sn, sub, ab, col, dd, k0, k1, k2, k3, k5, mN, hC, hN, hni, Tl⟩ := exc_obj I.kIn q
  refine wpAny_call_exc_subT F.excBase_ValueError Tl hC hN hni (fun h' e hm => ?_) (by show 0 ≤ sizeLine; rw [sizeLine_eq]; omega)
  exact mk_of I hm (raises_own T.oex.exC T.oex.tyC) h (I.hok.gone hm.new)
end EX
/-! own errors as the top leaves them -/
namespace EX
open PySem PySem.Spec PyProof.Rows L2 NdefX
set_option autoImplicit false
/-- an error class with its __init__(self, fl) -/
structure DfE (P : Program) (K : PySem.W.Frag) (mg : Str → Option Value) (x fl : Str) (ok : V → Prop) where
  C : Addr
  fI : Addr
  fd : FuncData
  g : mg x = some (.ref C)
  T : ErrC K C
  iC : PySem.W.findIn K (.ref C) "__init__" = some (some (.ref fI))
  tI : PySem.W.typeIn K (.ref fI) = some (.type "function")
  no : PySem.W.findIn K (.ref C) fl = some none
  b : Binds K fd ["self", fl] []
  F : ∀ (w : World) (base : Heap), FnOk P w K mg base CX0 1 fI fd ["self", fl] (spErr C fl ok)
/-- an error class without an __init__ -/
structure DfE0 (K : PySem.W.Frag) (mg : Str → Option Value) (x : Str) where
  C : Addr
  g : mg x = some (.ref C)
  T : ErrC K C
  q : PySem.W.excIn K C He.veBase "ValueError.__new__" = true
/-! ### the two bodies -/
theorem app_len (a b : Str) : (a ++ b).length = a.length + b.length := by
  show (a.cps ++ b.cps).size = a.cps.size + b.cps.size
  rw [Array.size_append]
section
variable {P : Program} {w : World} {K : PySem.W.Frag} {mg : Str → Option Value} {base : Heap} {C fI cc : Addr} {F : NF} {fl : Str} {oc doc pm ctv : Value} {od : Option Addr} {osl : Array (Option Value)} {ar : Arg}
/-- f'.. {fl}' -/
theorem init_f {p0 p1 p2 p3 p4 q1 q2 q3 q4 q5 q6 q7 q8 : Pos} {m : Str} {j : Nat} {pl : Addr → Sem Bool} (T : SupC P K C fI cc F) (lk : K.lookup fI = some ⟨oc, od, .func (F.fd doc pm ctv), osl⟩) (hm : mg "super" = none) (S : NScope ["self", fl, "__class__"] ["self", fl] ["__class__"] F.scope) (no : PySem.W.findIn K (.ref C) fl = some none)
    (hbody : F.body = [.Expr (.Call (.Attribute (.Call (.Name "super" p0) [] [] p1) "__init__" p2) [.JoinedStr [.Constant (.str m) j q1, .FormattedValue (.Name fl q2) (-1) none q3] q4] [] p3) p4, .Assign [.Attribute (.Name "self" q5) fl q6] (.Name fl q7) q8]) (hml : m.length ≤ 1000)
    (hpar : (F.params.posonlyargs ++ F.params.args).head? = some ar) (har : ar.arg = "self") (hks : F.scope.names.lookup ("super" : Str) = some .globalImplicit) (hdb : (fl == ("__debug__" : Str)) = false) (hdc : (fl == ("__classdict__" : Str)) = false)
    (he : ∀ L : Addr, eval (.Call (.Attribute (.Call (.Name "super" p0) [] [] p1) "__init__" p2) [.JoinedStr [.Constant (.str m) j q1, .FormattedValue (.Name fl q2) (-1) none q3] q4] [] p3) (envF F fI L) = (do
      let ov ← attributeBase (.Call (.Name "super" p0) [] [] p1) "__init__" (envF F fI L) (eval (.Call (.Name "super" p0) [] [] p1) (envF F fI L))
      standAt p2.atName
      let (f, first) ← holding [ov] (getMethod ov "__init__" (pl L))
      callWith p3 f first (backTo p3 (starEach [.JoinedStr [.Constant (.str m) j q1, .FormattedValue (.Name fl q2) (-1) none q3] q4] (envF F fI L))) [])) :
    FnOk P w K mg base CX0 1 fI (F.fd doc pm ctv) ["self", fl] (spErr C fl MsgOk) := by
  have vs : F.scope.names.lookup ("self" : Str) = some .local := S.par "self" (List.mem_cons_self ..)
  have vf : F.scope.names.lookup fl = some .local := S.par fl (List.mem_cons_of_mem _ (List.mem_cons_self ..))
  refine sup_ok (k := 0) T lk hm S hbody hpar har hks (fun vs H Q E h => ?_) (fun A outer s H vs Q E hr h => ?_) he (fun L => rfl) (fun L => rfl)
  · obtain ⟨a, y, rfl, _⟩ := h
    rfl
  · obtain ⟨a, y, rfl, ha, ok, k⟩ := h
    refine ⟨a, y, _, _, rfl, ha, pe_joined (.cons pe_str (.cons (pe_fmtN (pe_var (i := 1) rfl (.inl vf) (hd := hdb) (hcd := hdc))) .nil)), pss_one (ps_ost (pe_var (i := 0) rfl (.inl vs)) (pe_var (i := 1) rfl (.inl vf) (hd := hdb) (hcd := hdc)) (by rfl)), ?_⟩
    refine ⟨m, rfl, by rw [app_len, sizeLine_eq]; show 0 + _ ≤ _; omega, y, rfl, ok, fun z hz => ⟨z, rfl, by rw [app_len, app_len, sizeLine_eq]; show 0 + _ + _ ≤ _; omega, rfl, ha, y, rfl, .ref a, rfl, a, C, rfl, T.oex, no, .inl ⟨ha, fun dx n1 n2 => k dx n1 n2⟩⟩⟩
/-- a written text -/
theorem init_c {p0 p1 p2 p3 p4 q1 q5 q6 q7 q8 : Pos} {m : Str} {j : Nat} {pl : Addr → Sem Bool} (T : SupC P K C fI cc F) (lk : K.lookup fI = some ⟨oc, od, .func (F.fd doc pm ctv), osl⟩) (hm : mg "super" = none) (S : NScope ["self", fl, "__class__"] ["self", fl] ["__class__"] F.scope) (no : PySem.W.findIn K (.ref C) fl = some none)
    (hbody : F.body = [.Expr (.Call (.Attribute (.Call (.Name "super" p0) [] [] p1) "__init__" p2) [.Constant (.str m) j q1] [] p3) p4, .Assign [.Attribute (.Name "self" q5) fl q6] (.Name fl q7) q8])
    (hpar : (F.params.posonlyargs ++ F.params.args).head? = some ar) (har : ar.arg = "self") (hks : F.scope.names.lookup ("super" : Str) = some .globalImplicit) (hdb : (fl == ("__debug__" : Str)) = false) (hdc : (fl == ("__classdict__" : Str)) = false)
    (he : ∀ L : Addr, eval (.Call (.Attribute (.Call (.Name "super" p0) [] [] p1) "__init__" p2) [.Constant (.str m) j q1] [] p3) (envF F fI L) = (do
      let ov ← attributeBase (.Call (.Name "super" p0) [] [] p1) "__init__" (envF F fI L) (eval (.Call (.Name "super" p0) [] [] p1) (envF F fI L))
      standAt p2.atName
      let (f, first) ← holding [ov] (getMethod ov "__init__" (pl L))
      callWith p3 f first (backTo p3 (starEach [.Constant (.str m) j q1] (envF F fI L))) [])) :
    FnOk P w K mg base CX0 1 fI (F.fd doc pm ctv) ["self", fl] (spErr C fl fun _ => True) := by
  have vs : F.scope.names.lookup ("self" : Str) = some .local := S.par "self" (List.mem_cons_self ..)
  have vf : F.scope.names.lookup fl = some .local := S.par fl (List.mem_cons_of_mem _ (List.mem_cons_self ..))
  refine sup_ok (k := 0) T lk hm S hbody hpar har hks (fun vs H Q E h => ?_) (fun A outer s H vs Q E hr h => ?_) he (fun L => rfl) (fun L => rfl)
  · obtain ⟨a, y, rfl, _⟩ := h
    rfl
  · obtain ⟨a, y, rfl, ha, ok, k⟩ := h
    refine ⟨a, y, _, _, rfl, ha, pe_str, pss_one (ps_ost (pe_var (i := 0) rfl (.inl vs)) (pe_var (i := 1) rfl (.inl vf) (hd := hdb) (hcd := hdc)) (by rfl)), ?_⟩
    exact ⟨rfl, ha, y, rfl, .ref a, rfl, a, C, rfl, T.oex, no, .inl ⟨ha, fun dx n1 n2 => k dx n1 n2⟩⟩
end
/-! ### the top's facts -/
/-- an __init__: its class, its field, its def -/
structure InD where
  cls : Str
  qual : Str
  fld : Str
  params : Arguments
  body : List Stmt
  scope : Scope
abbrev FnY : Type := Option (Str × Str × Arguments × FuncBody × Scope × Addr × Value × Value × Option Addr × Addr)
def fnY (K : PySem.W.Frag) (x : Str) : FnY := match K.lookup (He.ma K (He.ga K x) "__init__") with
  | some ⟨_, _, .func fd, _⟩ => some (fd.name, fd.qualname, fd.params, fd.body, fd.scope, fd.globals, fd.defaults, fd.kwdefaults, fd.annotations, fd.builtins)
  | _ => none
def InD.val (d : InD) : FnY := some ("__init__", d.qual, d.params, .stmts d.body, d.scope, mainGlobals, .none, .none, none, builtinsNs)
/-- the code object of the program's own text -/
def codeB (P : Program) (K : PySem.W.Frag) (c : Addr) (q : Str) : Bool := PySem.W.codeIn K (.ref c) q && (match K.lookup c with
  | some ⟨_, _, .fields vs, _⟩ => (match (vs[2]? : Option Value) with
    | some (Value.str file _) => (P.main.file : Str) == file
    | _ => false)
  | _ => false)
def codeV (P : Program) (K : PySem.W.Frag) (v : Value) (q : Str) : Bool := match v with
  | .ref c => codeB P K c q
  | _ => false
def cellB (K : PySem.W.Frag) (C c : Addr) : Bool := match K.lookup c with
  | some ⟨_, _, .cell (some (.ref D)), _⟩ => D == C
  | _ => false
def clB (K : PySem.W.Frag) (C : Addr) (l : List (Str × Addr)) : Bool := match l with
  | [(y, c)] => decide (y = "__class__") && cellB K C c
  | _ => false
def fdB (P : Program) (K : PySem.W.Frag) (C fI : Addr) : Bool := match K.lookup fI with
  | some ⟨_, _, .func fd, _⟩ => clB K C fd.closure && codeV P K fd.code fd.qualname
  | _ => false
def supB (P : Program) (K : PySem.W.Frag) (d : InD) : Bool := errB K (He.ga K d.cls) && (fdB P K (He.ga K d.cls) (He.ma K (He.ga K d.cls) "__init__") && (decide (PySem.W.nsIn K cStatics "thirdparty.any" = some none) && (decide (PySem.W.ks_superIn K (He.ga K d.cls) (He.ga K d.cls) "__init__" = some (some (.builtin "ValueError.__init__"))) &&
  (decide (PySem.W.subIn K (.ref (He.ga K d.cls)) (.type "ValueError") = some true) && (decide (PySem.W.mroIn K (He.ga K d.cls) (.ref (He.ga K d.cls)) = some true) && (decide (PySem.W.findIn K (.ref (He.ga K d.cls)) "__init__" = some (some (.ref (He.ma K (He.ga K d.cls) "__init__")))) &&
  (decide (PySem.W.typeIn K (.ref (He.ma K (He.ga K d.cls) "__init__")) = some (.type "function")) && (decide (PySem.W.findIn K (.ref (He.ga K d.cls)) d.fld = some none) && He.eqO (PySem.W.nsIn K mainGlobals d.cls) (some (some (.ref (He.ga K d.cls))))))))))))
theorem cellB_ok {K : PySem.W.Frag} {C c : Addr} (h : cellB K C c = true) : ∃ (cl : Value) (cld : Option Addr) (csl : Array (Option Value)), K.lookup c = some (⟨cl, cld, .cell (some (.ref C)), csl⟩ : Obj) := by
  unfold cellB at h
  split at h
  · rename_i a b D s e
    have : D = C := eq_of_beq h
    subst this
    exact ⟨a, b, s, e⟩
  · cases h
theorem codeB_ok {P : Program} {K : PySem.W.Frag} {c : Addr} {q : Str} (h : codeB P K c q = true) : PySem.W.codeIn K (.ref c) q = true ∧ ∃ (ccl : Value) (cdd : Option Addr) (vs : Array Value) (ccs : Array (Option Value)) (file : Str) (tf : Tok), K.lookup c = some (⟨ccl, cdd, .fields vs, ccs⟩ : Obj) ∧ vs[2]? = some (Value.str file tf) ∧ ((P.main.file : Str) == file) = true := by
  unfold codeB at h
  obtain ⟨h1, h⟩ := Bool.and_eq_true_iff.mp h
  refine ⟨h1, ?_⟩
  split at h
  · rename_i a b vs s e
    split at h
    · rename_i file t e2
      exact ⟨a, b, vs, s, file, t, e, e2, h⟩
    · cases h
  · cases h
/-- what is known of the class behind the top -/
theorem init_at {P : Program} {K : PySem.W.Frag} {d : InD} (e : fnY K d.cls = d.val) (c : supB P K d = true) (top : (P.main.scope.names.lookup ("super" : Str)).isSome = false) :
    ∃ (F : NF) (cc : Addr) (oc doc pm ctv : Value) (od : Option Addr) (osl : Array (Option Value)), F.name = "__init__" ∧ F.qual = d.qual ∧ F.params = d.params ∧ F.body = d.body ∧ F.scope = d.scope ∧ SupC P K (He.ga K d.cls) (He.ma K (He.ga K d.cls) "__init__") cc F ∧ K.lookup (He.ma K (He.ga K d.cls) "__init__") = some ⟨oc, od, .func (F.fd doc pm ctv), osl⟩ := by
  unfold supB at c
  simp only [Bool.and_eq_true, decide_eq_true_eq] at c
  obtain ⟨c1, c2, c3, c4, c5, c6, c7, c8, c9, c10⟩ := c
  have E := errB_ok c1
  unfold fdB at c2
  unfold fnY at e
  cases q : K.lookup (He.ma K (He.ga K d.cls) "__init__") with
  | none =>
    rw [q] at c2
    cases c2
  | some o =>
    obtain ⟨oc, od, dt, osl⟩ := o
    rw [q] at c2 e
    cases dt with
    | func fd =>
      obtain ⟨n1, n2, n3, n4, n5, n6, n7, n8, n9, n10, n11, n12, n13, n14, n15⟩ := fd
      have e2 : (some (n1, n2, n3, n4, n5, n6, n8, n9, n12, n15) : FnY) = some (("__init__" : Str), d.qual, d.params, FuncBody.stmts d.body, d.scope, mainGlobals, Value.none, Value.none, (none : Option Addr), builtinsNs) := e
      simp only [Option.some.injEq, Prod.mk.injEq] at e2
      obtain ⟨h1, h2, h3, h4, h5, h6, h7, h8, h9, h10⟩ := e2
      subst h1 h2 h3 h4 h5 h6 h7 h8 h9 h10
      have c3' : (clB K (He.ga K d.cls) n7 && codeV P K n13 d.qual) = true := c2
      obtain ⟨k1, k2⟩ := Bool.and_eq_true_iff.mp c3'
      unfold clB at k1
      split at k1
      · rename_i y cc
        obtain ⟨k3, k4⟩ := Bool.and_eq_true_iff.mp k1
        have ey : y = "__class__" := of_decide_eq_true k3
        subst ey
        cases n13 with
        | ref cd =>
          obtain ⟨k5, k6⟩ := codeB_ok k2
          exact ⟨⟨"__init__", d.qual, d.params, d.body, d.scope, [("__class__", cc)], cd⟩, cc, oc, n10, n11, n14, od, osl, rfl, rfl, rfl, rfl, rfl, ⟨E.oex, rfl, k5, k6, cellB_ok k4, top, c3, c4, c5, c6⟩, rfl⟩
        | _ => cases k2
      · cases k1
    | _ => cases c2
theorem mkE {P : Program} {K : PySem.W.Frag} {h : Heap} {mg : Str → Option Value} {d : InD} {ok : V → Prop} (X : K.In h) (G : h.Ns mainGlobals mg) (e : fnY K d.cls = d.val) (c : supB P K d = true) (top : (P.main.scope.names.lookup ("super" : Str)).isSome = false)
    (hb : ∀ (F : NF) (doc pm ctv : Value) (us : List Value), F.name = "__init__" → F.qual = d.qual → F.params = d.params → F.body = d.body → F.scope = d.scope → us.length = 2 → bindArgs (F.fd doc pm ctv) ⟨us, []⟩ = pure ((([("self" : Str), d.fld] : List Str)).zip us))
    (hF : ∀ (F : NF) (cc : Addr) (oc doc pm ctv : Value) (od : Option Addr) (osl : Array (Option Value)) (w : World) (base : Heap), F.params = d.params → F.body = d.body → F.scope = d.scope → SupC P K (He.ga K d.cls) (He.ma K (He.ga K d.cls) "__init__") cc F →
      K.lookup (He.ma K (He.ga K d.cls) "__init__") = some ⟨oc, od, .func (F.fd doc pm ctv), osl⟩ → PySem.W.findIn K (.ref (He.ga K d.cls)) d.fld = some none → FnOk P w K mg base CX0 1 (He.ma K (He.ga K d.cls) "__init__") (F.fd doc pm ctv) ["self", d.fld] (spErr (He.ga K d.cls) d.fld ok)) :
    ∃ D : DfE P K mg d.cls d.fld ok, D.C = He.ga K d.cls := by
  obtain ⟨F, cc, oc, doc, pm, ctv, od, osl, f1, f2, f3, f4, f5, S, lk⟩ := init_at e c top
  unfold supB at c
  simp only [Bool.and_eq_true, decide_eq_true_eq] at c
  obtain ⟨c1, c2, c3, c4, c5, c6, c7, c8, c9, c10⟩ := c
  exact ⟨⟨He.ga K d.cls, He.ma K (He.ga K d.cls) "__init__", F.fd doc pm ctv, PySem.W.mg_of X G (He.eqO_ok c10), errB_ok c1, c7, c8, c9, .all fun us hl => hb F doc pm ctv us f1 f2 f3 f4 f5 hl, fun w base => hF F cc oc doc pm ctv od osl w base f3 f4 f5 S lk c9⟩, rfl⟩
/-! ### the Hook -/
def ex0B (K : PySem.W.Frag) (x : Str) : Bool := errB K (He.ga K x) && (PySem.W.excIn K (He.ga K x) He.veBase "ValueError.__new__" && He.eqO (PySem.W.nsIn K mainGlobals x) (some (some (.ref (He.ga K x)))))
/-- isinstance of an instance of x, y: b -/
def kitB (K : PySem.W.Frag) (p : Str × Str × Bool) : Bool := decide (PySem.W.kitOne K (.ref (He.ga K p.1)) (.ref (He.ga K p.2.1)) = some p.2.2)
abbrev AlX : Type := He.AlD × Bool × List FnY
/-- an own class that isinstance, == and != ask -/
structure OwnC (K : PySem.W.Frag) (C : Addr) : Prop where
  ha : PySem.W.findIn K (.ref C) "__class__" = some (some (.builtin "object.__class__"))
  hn : PySem.W.specialIn K (.builtin "object.__class__") "__get__" = some (some (.builtin "getset_descriptor.__get__"))
  ht : PySem.W.takesIn K (.builtin "object.__class__") = some true
  hm : PySem.W.mroIn K C (.type "object") = some true
  me : PySem.W.kitOne K (.ref C) (.ref C) = some true
  ne : PySem.W.findIn K (.ref C) "__ne__" = some (some (.builtin "object.__ne__"))
def ownB (K : PySem.W.Frag) (x : Str) : Bool := decide (PySem.W.findIn K (.ref (He.ga K x)) "__class__" = some (some (.builtin "object.__class__"))) && (decide (PySem.W.specialIn K (.builtin "object.__class__") "__get__" = some (some (.builtin "getset_descriptor.__get__"))) && (decide (PySem.W.takesIn K (.builtin "object.__class__") = some true) &&
  (decide (PySem.W.mroIn K (He.ga K x) (.type "object") = some true) && (decide (PySem.W.kitOne K (.ref (He.ga K x)) (.ref (He.ga K x)) = some true) && decide (PySem.W.findIn K (.ref (He.ga K x)) "__ne__" = some (some (.builtin "object.__ne__")))))))
theorem ownB_ok {K : PySem.W.Frag} {x : Str} (h : ownB K x = true) : OwnC K (He.ga K x) := by
  unfold ownB at h
  simp only [Bool.and_eq_true, decide_eq_true_eq] at h
  obtain ⟨h1, h2, h3, h4, h5, h6⟩ := h
  exact ⟨h1, h2, h3, h4, h5, h6⟩
/-- isinstance of a value of the built-in class T, y: false; y is no such class's own -/
structure KtyF (K : PySem.W.Frag) (T : String) (C : Addr) : Prop where
  no : PySem.W.kitOne K (.type T) (.ref C) = some false
  nf : PySem.W.notFirst K C (.type T) = true
def ktyB (K : PySem.W.Frag) (p : String × Str) : Bool := decide (PySem.W.kitOne K (.type p.1) (.ref (He.ga K p.2)) = some false) && PySem.W.notFirst K (He.ga K p.2) (.type p.1)
theorem ktyB_ok {K : PySem.W.Frag} {p : String × Str} (h : ktyB K p = true) : KtyF K p.1 (He.ga K p.2) := by
  unfold ktyB at h
  simp only [Bool.and_eq_true, decide_eq_true_eq] at h
  exact ⟨h.1, h.2⟩
structure Xs where
  ini : List InD := []
  ex : List Str := []
  kit : List (Str × Str × Bool) := []
  exm : List (Str × Str × Bool) := []
  own : List Str := []
  kty : List (String × Str) := []
def Xs.ok (P : Program) (x : Xs) (K : PySem.W.Frag) : Bool := x.ini.all (supB P K) && (x.ex.all (ex0B K) && (x.kit.all (kitB K) && ((x.exm.all fun p => (He.Fa.exm p.1 p.2.1 p.2.2).ok K) && (x.own.all (ownB K) && x.kty.all (ktyB K)))))
def obsX (P : Program) (fa : List He.Fa) (fn : List He.DefD) (x : Xs) (K : PySem.W.Frag) : AlX := (He.obsD fa fn K, x.ok P K, x.ini.map fun d => fnY K d.cls)
def valX (fn : List He.DefD) (x : Xs) : AlX := (He.valD fn, true, x.ini.map InD.val)
def obsXG (P : Program) (n : Nat) (fa : List He.Fa) (fn : List He.DefD) (x : Xs) (g : Addr → Option Obj) : AlX := obsX P fa fn x (He.frG g (cStatics :: He.asD g n))
def SaysX (P : Program) (fa : List He.Fa) (fn : List He.DefD) (x : Xs) (K : PySem.W.Frag) : Prop := obsX P fa fn x K = valX fn x
def hookX (P : Program) (n : Nat) (fa : List He.Fa) (fn : List He.DefD) (x : Xs) : PySem.W.Hook where
  α := AlX
  obs := fun s => obsXG P n fa fn x s.heap.get?
  val := fun _ => valX fn x
  says := fun _ h => ∃ K : PySem.W.Frag, K.In h ∧ SaysX P fa fn x K
  of := fun _ _ e => ⟨_, He.frG_in, e⟩
  keeps := fun _ _ _ ⟨K, hK, c⟩ k => ⟨K, PySem.W.Frag.In.keeps hK k, c⟩
theorem obsXG_eq {P : Program} {n : Nat} {fa : List He.Fa} {fn : List He.DefD} {x : Xs} {g : Addr → Option Obj} {s : Shared} (h : ∀ a, g a = s.heap.get? a) : obsXG P n fa fn x g = (hookX P n fa fn x).obs s := by
  have e : g = s.heap.get? := funext h
  rw [e] <;> rfl
section
variable {P : Program} {fa : List He.Fa} {fn : List He.DefD} {x : Xs} {K : PySem.W.Frag}
theorem SaysX.d (c : SaysX P fa fn x K) : He.SaysD fa fn K := congrArg (fun z : AlX => z.1) c
theorem SaysX.b (c : SaysX P fa fn x K) : x.ok P K = true := congrArg (fun z : AlX => z.2.1) c
theorem SaysX.ini (c : SaysX P fa fn x K) (i : Nat) {d : InD} (h : x.ini[i]? = some d := by rfl) : supB P K d = true ∧ fnY K d.cls = d.val := by
  obtain ⟨b, _⟩ := Bool.and_eq_true_iff.mp c.b
  refine ⟨List.all_eq_true.mp b d (List.mem_of_getElem? h), ?_⟩
  have e : x.ini.map (fun d => fnY K d.cls) = x.ini.map InD.val := congrArg (fun z : AlX => z.2.2) c
  have e2 : (x.ini.map fun d => fnY K d.cls)[i]? = (x.ini.map InD.val)[i]? := by rw [e]
  rw [List.getElem?_map, List.getElem?_map, h] at e2
  exact Option.some.inj e2
theorem SaysX.ex {h : Heap} {mg : Str → Option Value} (c : SaysX P fa fn x K) (X : K.In h) (G : h.Ns mainGlobals mg) (i : Nat) {y : Str} (hy : x.ex[i]? = some y := by rfl) : ∃ D : DfE0 K mg y, D.C = He.ga K y := by
  obtain ⟨_, b⟩ := Bool.and_eq_true_iff.mp c.b
  obtain ⟨b, _⟩ := Bool.and_eq_true_iff.mp b
  have z := List.all_eq_true.mp b y (List.mem_of_getElem? hy)
  unfold ex0B at z
  simp only [Bool.and_eq_true] at z
  exact ⟨⟨He.ga K y, PySem.W.mg_of X G (He.eqO_ok z.2.2), errB_ok z.1, z.2.1⟩, rfl⟩
theorem SaysX.kit (c : SaysX P fa fn x K) (i : Nat) {p : Str × Str × Bool} (hy : x.kit[i]? = some p := by rfl) : PySem.W.kitOne K (.ref (He.ga K p.1)) (.ref (He.ga K p.2.1)) = some p.2.2 := by
  obtain ⟨_, b⟩ := Bool.and_eq_true_iff.mp c.b
  obtain ⟨_, b⟩ := Bool.and_eq_true_iff.mp b
  obtain ⟨b, _⟩ := Bool.and_eq_true_iff.mp b
  exact of_decide_eq_true (List.all_eq_true.mp b p (List.mem_of_getElem? hy))
theorem SaysX.exm (c : SaysX P fa fn x K) (i : Nat) {p : Str × Str × Bool} (hy : x.exm[i]? = some p := by rfl) : PySem.W.exmOne K (.ref (He.ga K p.1)) (.ref (He.ga K p.2.1)) = some p.2.2 := by
  obtain ⟨_, b⟩ := Bool.and_eq_true_iff.mp c.b
  obtain ⟨_, b⟩ := Bool.and_eq_true_iff.mp b
  obtain ⟨_, b⟩ := Bool.and_eq_true_iff.mp b
  obtain ⟨b, _⟩ := Bool.and_eq_true_iff.mp b
  exact He.exm_ok (List.all_eq_true.mp b p (List.mem_of_getElem? hy))
theorem SaysX.own (c : SaysX P fa fn x K) (i : Nat) {y : Str} (hy : x.own[i]? = some y := by rfl) : OwnC K (He.ga K y) := by
  obtain ⟨_, b⟩ := Bool.and_eq_true_iff.mp c.b
  obtain ⟨_, b⟩ := Bool.and_eq_true_iff.mp b
  obtain ⟨_, b⟩ := Bool.and_eq_true_iff.mp b
  obtain ⟨_, b⟩ := Bool.and_eq_true_iff.mp b
  obtain ⟨b, _⟩ := Bool.and_eq_true_iff.mp b
  exact ownB_ok (List.all_eq_true.mp b y (List.mem_of_getElem? hy))
theorem SaysX.kty (c : SaysX P fa fn x K) (i : Nat) {p : String × Str} (hy : x.kty[i]? = some p := by rfl) : KtyF K p.1 (He.ga K p.2) := by
  obtain ⟨_, b⟩ := Bool.and_eq_true_iff.mp c.b
  obtain ⟨_, b⟩ := Bool.and_eq_true_iff.mp b
  obtain ⟨_, b⟩ := Bool.and_eq_true_iff.mp b
  obtain ⟨_, b⟩ := Bool.and_eq_true_iff.mp b
  obtain ⟨_, b⟩ := Bool.and_eq_true_iff.mp b
  exact ktyB_ok (List.all_eq_true.mp b p (List.mem_of_getElem? hy))
end
end EX
/-! text.find(sub, start): the first place from there on -/
namespace FD
open PySem PySem.StrLaws PySem.Builtin PySem.Builtin.Str
set_option autoImplicit false
theorem full (s sub : Str) (hi : Nat) : ∀ (l : List Nat) (st : Array Nat × Nat), st.fst.size = 1 → (forIn l st (occBody s sub hi 1)).run.fst = st.fst
  | [], _, _ => rfl
  | a :: l, st, h => by
    rw [List.forIn_cons]
    unfold occBody
    rw [if_neg (fun q => by have := q.1.1.1; omega)]
    exact full s sub hi l _ h
theorem one (s sub : Str) (hi : Nat) : ∀ (l : List Nat) (free : Nat), (∀ i ∈ l, free ≤ i) →
    (forIn l ((#[] : Array Nat), free) (occBody s sub hi 1)).run.fst.toList = (l.find? fun i => decide (i + sub.length ≤ hi ∧ subAt s sub i = true)).toList
  | [], free, _ => rfl
  | a :: l, free, hf => by
    rw [List.forIn_cons, List.find?_cons]
    unfold occBody
    by_cases hc : a + sub.length ≤ hi ∧ subAt s sub a = true
    · rw [if_pos ⟨⟨⟨Nat.zero_lt_one, hf a List.mem_cons_self⟩, hc.1⟩, hc.2⟩, decide_eq_true hc]
      show (forIn l ((#[] : Array Nat).push a, a + sub.length) (occBody s sub hi 1)).run.fst.toList = _
      rw [full s sub hi l _ rfl]
      rfl
    · rw [if_neg (fun h => hc ⟨h.1.2, h.2⟩), decide_eq_false hc]
      exact one s sub hi l free fun i hi' => hf i (List.mem_cons_of_mem _ hi')
theorem least {p : Nat → Bool} : ∀ (n lo k : Nat), (List.range' lo n).find? p = some k → lo ≤ k ∧ p k = true ∧ ∀ j, lo ≤ j → j < k → p j = false
  | 0, lo, k, h => by cases h
  | n + 1, lo, k, h => by
    rw [show List.range' lo (n + 1) = lo :: List.range' (lo + 1) n from rfl, List.find?_cons] at h
    cases q : p lo with
    | true =>
      rw [q] at h
      cases h
      exact ⟨Nat.le_refl _, q, fun j h1 h2 => by omega⟩
    | false =>
      rw [q] at h
      obtain ⟨h1, h2, h3⟩ := least n (lo + 1) k h
      refine ⟨by omega, h2, fun j j1 j2 => ?_⟩
      by_cases e : j = lo
      · rw [e]
        exact q
      · exact h3 j (by omega) j2
/-- a text stands at a place -/
def At (w u : List Nat) (i : Nat) : Prop := (w.drop i).take u.length = u
theorem at_iff {x y : Str} (hy : 0 < y.cps.toList.length) (i : Nat) : (i + y.length ≤ x.length ∧ subAt x y i = true) ↔ At x.cps.toList y.cps.toList i := by
  have ey : y.length = y.cps.toList.length := (Array.length_toList).symm
  have ex : x.length = x.cps.toList.length := (Array.length_toList).symm
  rw [subAt_eq, beq_iff_eq, ex, ey]
  refine ⟨fun h => h.2, fun h => ⟨?_, h⟩⟩
  have l := congrArg List.length (show (x.cps.toList.drop i).take y.cps.toList.length = y.cps.toList from h)
  rw [List.length_take, List.length_drop] at l
  omega
theorem find3_nat {x y : Str} {lo : Nat} (hy : 0 < y.cps.toList.length) (hlo : lo ≤ x.length) :
    (∃ k : Nat, Txt.find3 x y (lo : Int) = (k : Int) ∧ lo ≤ k ∧ At x.cps.toList y.cps.toList k ∧ ∀ j, lo ≤ j → j < k → ¬ At x.cps.toList y.cps.toList j) ∨
    (Txt.find3 x y (lo : Int) = -1 ∧ ∀ j, lo ≤ j → ¬ At x.cps.toList y.cps.toList j) := by
  have ef : fromIndex x.length (lo : Int) = lo := by
    unfold fromIndex
    rw [if_neg (by omega)]
    omega
  have eo : occurrences x y lo x.length 1 = ((List.range' lo (x.length + 1 - lo)).find? fun i => decide (i + y.length ≤ x.length ∧ subAt x y i = true)).toList := by
    rw [occ_eq]
    exact one x y x.length _ lo fun i hi => (List.mem_range'_1.mp hi).1
  unfold Txt.find3
  rw [ef, eo]
  cases q : (List.range' lo (x.length + 1 - lo)).find? fun i => decide (i + y.length ≤ x.length ∧ subAt x y i = true) with
  | none =>
    refine .inr ⟨rfl, fun j hj ha => ?_⟩
    have hp := (at_iff hy j).mpr ha
    have := List.find?_eq_none.mp q j (List.mem_range'_1.mpr ⟨hj, by omega⟩)
    exact this (decide_eq_true hp)
  | some k =>
    obtain ⟨h1, h2, h3⟩ := least _ _ _ q
    refine .inl ⟨k, rfl, h1, (at_iff hy k).mp (of_decide_eq_true h2), fun j j1 j2 ha => ?_⟩
    exact (of_decide_eq_false (h3 j j1 j2)) ((at_iff hy j).mpr ha)
end FD
namespace FD
open PySem PySem.StrLaws PySem.Builtin PySem.Builtin.Str
theorem occ_one {x : Str} {c : Nat} (h : c ∈ x.cps.toList) : ∃ i : Nat, occurrences x ⟨#[c]⟩ 0 x.length 1 = [i] ∧ x.cps.toList[i]? = some c ∧ ∀ j, j < i → x.cps.toList[j]? ≠ some c := by
  have eo : occurrences x ⟨#[c]⟩ 0 x.length 1 = ((List.range' 0 (x.length + 1 - 0)).find? fun i => decide (i + (⟨#[c]⟩ : Str).length ≤ x.length ∧ subAt x ⟨#[c]⟩ i = true)).toList := by
    rw [occ_eq]
    exact one x ⟨#[c]⟩ x.length _ 0 fun i _ => Nat.zero_le i
  rw [eo]
  have ex : x.length = x.cps.toList.length := (Array.length_toList).symm
  cases q : (List.range' 0 (x.length + 1 - 0)).find? fun i => decide (i + (⟨#[c]⟩ : Str).length ≤ x.length ∧ subAt x ⟨#[c]⟩ i = true) with
  | none =>
    obtain ⟨i, hi⟩ := List.getElem?_of_mem h
    have il := (List.getElem?_eq_some_iff.mp hi).1
    have := List.find?_eq_none.mp q i (List.mem_range'_1.mpr ⟨Nat.zero_le _, by omega⟩)
    exact absurd (decide_eq_true ((subAt_one x c i).mpr hi)) this
  | some k =>
    obtain ⟨_, h2, h3⟩ := least _ _ _ q
    refine ⟨k, rfl, (subAt_one x c k).mp (of_decide_eq_true h2), fun j hj e => ?_⟩
    exact (of_decide_eq_false (h3 j (Nat.zero_le _) hj)) ((subAt_one x c j).mpr e)
end FD
namespace DW
open PySem PySem.Spec PyProof.Rows L2
/-! ### a def that stands in the module -/
structure Df (K : PySem.W.Frag) (mg : Str → Option Value) (x : Str) (st : Stmt) (ps : List Str) where
  f : Addr
  fd : FuncData
  F : FunD K x x (defArgs st) (defBody st) (defScope st) [] [] f fd
  g : mg x = some (.ref f)
  b : Binds K fd ps []
/-! ### heaps: all but the tape stays -/
structure Kp (t : Addr) (H H' : Hp) : Prop where
  old : ∃ kvs, H t = some (.dK kvs)
  new : ∃ kvs, H' t = some (.dK kvs)
  oth : ∀ b o, b ≠ t → H b = some o → H' b = some o
theorem Kp.trans {t : Addr} {H H1 H2 : Hp} (a : Kp t H H1) (b : Kp t H1 H2) : Kp t H H2 := ⟨a.old, b.new, fun c o n e => b.oth c o n (a.oth c o n e)⟩
theorem Kp.of {t : Addr} {H H' : Hp} {kvs : List (Key × V)} (e : H t = some (.dK kvs)) (s : Same H H') : Kp t H H' := ⟨⟨_, e⟩, ⟨_, s _ _ e⟩, fun b o _ h => s b o h⟩
theorem Kp.at {t b : Addr} {H H' : Hp} {o : HO} (k : Kp t H H') (h : H b = some o) (n : ∀ kvs, o ≠ .dK kvs) : H' b = some o := by
  obtain ⟨kvs, e⟩ := k.old
  exact k.oth b o (fun z => by
    subst z
    rw [e] at h
    exact n kvs (Option.some.inj h).symm) h
theorem Kp.lst {t b : Addr} {H H' : Hp} {xs : List V} {K : PySem.W.Frag} (k : Kp t H H') (h : SqL K H b xs) : SqL K H' b xs := by
  rcases h with (h | ⟨o, h⟩) | h
  · exact .inl (.inl (k.at h fun _ z => by cases z))
  · exact .inl (.inr ⟨o, k.at h fun _ z => by cases z⟩)
  · exact .inr h
theorem Kp.tup {t b : Addr} {H H' : Hp} {xs : List V} {K : PySem.W.Frag} (k : Kp t H H') (h : SqT K H b xs) : SqT K H' b xs := by
  rcases h with (h | ⟨o, h⟩) | h
  · exact .inl (.inl (k.at h fun _ z => by cases z))
  · exact .inl (.inr ⟨o, k.at h fun _ z => by cases z⟩)
  · exact .inr h
theorem same_upd {H : Hp} {p : Addr} {o : HO} (h : H p = none) : Same H (upd H p o) := fun b x e => by
  rw [upd_ne (ne_of_none e h)]
  exact e
theorem Kp.gone {t b : Addr} {H H' : Hp} (k : Kp t H H') (h : H' b = none) : H b = none := by
  cases q : H b with
  | none => rfl
  | some o =>
    by_cases e : b = t
    · obtain ⟨kvs, z⟩ := k.new
      rw [e, z] at h
      cases h
    · rw [k.oth b o e q] at h
      cases h
/-! ### the tape -/
def tpd (c : Addr) (p l : Int) : List (Key × V) := [(.inr "cells", .ref c), (.inr "place", .int p), (.inr "left", .int l)]
structure Tape (H : Hp) (t c : Addr) (n : Nat) : Prop where
  ex : ∃ (cells : List Int) (p : Nat) (l : Int), H t = some (.dK (tpd c p l)) ∧ H c = some (.lst (cells.map V.int)) ∧ 0 < cells.length ∧ cells.length ≤ 63 ∧ p ≤ n ∧ 0 ≤ l
section
variable {H H' : Hp} {t c : Addr} {n m : Nat}
theorem Tape.dk (T : Tape H t c n) : ∃ kvs, H t = some (.dK kvs) := by
  obtain ⟨cells, p, l, h, _⟩ := T.ex
  exact ⟨_, h⟩
theorem Tape.same (T : Tape H t c n) (s : Same H H') : Tape H' t c n := by
  obtain ⟨cells, p, l, h, hc, r⟩ := T.ex
  exact ⟨cells, p, l, s _ _ h, s _ _ hc, r⟩
theorem Tape.kp (T : Tape H t c n) (s : Same H H') : Kp t H H' := by
  obtain ⟨kvs, h⟩ := T.dk
  exact Kp.of h s
theorem Tape.mono (T : Tape H t c n) (h : n ≤ m) : Tape H t c m := by
  obtain ⟨cells, p, l, h1, h2, h3, h4, h5, h6⟩ := T.ex
  exact ⟨cells, p, l, h1, h2, h3, h4, Nat.le_trans h5 h, h6⟩
theorem Kp.refl (T : Tape H t c n) : Kp t H H := T.kp (Same.refl H)
/-- a store at an object that is not the tape's -/
theorem Tape.upd {D : Addr} {o : HO} (T : Tape H t c n) (h1 : D ≠ t) (h2 : D ≠ c) : Tape (upd H D o) t c n := by
  obtain ⟨cells, p, l, h, hc, r⟩ := T.ex
  exact ⟨cells, p, l, (upd_ne h1.symm).trans h, (upd_ne h2.symm).trans hc, r⟩
theorem Tape.ne1 {D : Addr} (T : Tape H t c n) (h : H D = none) : D ≠ t := fun z => by
  obtain ⟨cells, p, l, e, hc, r⟩ := T.ex
  rw [z, e] at h
  cases h
theorem Tape.ne2 {D : Addr} (T : Tape H t c n) (h : H D = none) : D ≠ c := fun z => by
  obtain ⟨cells, p, l, e, hc, r⟩ := T.ex
  rw [z, hc] at h
  cases h
theorem Kp.put {D : Addr} {o : HO} (k : Kp t H H') (h : H D = Option.none) (h1 : D ≠ t) : Kp t H (L2.upd H' D o) := by
  obtain ⟨kvs, e⟩ := k.new
  refine ⟨k.old, ⟨kvs, (upd_ne h1.symm).trans e⟩, fun b u n q => ?_⟩
  rw [upd_ne (ne_of_none q h)]
  exact k.oth b u n q
end
theorem ks1 : ¬ (("cells" : Str) = "place") := by decide +kernel
theorem ks2 : ¬ (("cells" : Str) = "left") := by decide +kernel
theorem ks3 : ¬ (("place" : Str) = "left") := by decide +kernel
theorem ks1' : ¬ (("place" : Str) = "cells") := by decide +kernel
theorem ks2' : ¬ (("left" : Str) = "cells") := by decide +kernel
theorem ks3' : ¬ (("left" : Str) = "place") := by decide +kernel
theorem tp_cells (c : Addr) (p l : Int) : valV (tpd c p l) (Sum.inr ("cells" : Str)) = some (.ref c) := by simp [tpd, valV]
theorem tp_place (c : Addr) (p l : Int) : valV (tpd c p l) (Sum.inr ("place" : Str)) = some (.int p) := by simp [tpd, valV, ks1]
theorem tp_left (c : Addr) (p l : Int) : valV (tpd c p l) (Sum.inr ("left" : Str)) = some (.int l) := by simp [tpd, valV, ks2, ks3]
theorem tp_put_place (c : Addr) (p q l : Int) : putK (tpd c p l) (Sum.inr ("place" : Str)) (.int q) = tpd c q l := by simp [putK, tpd, ks1, ks3']
theorem tp_put_left (c : Addr) (p l m : Int) : putK (tpd c p l) (Sum.inr ("left" : Str)) (.int m) = tpd c p m := by simp [putK, tpd, ks2, ks3]
theorem tp_merge (c : Addr) (p l : Int) : mergeK [] (tpd c p l) = tpd c p l := by simp [mergeK, putK, tpd, ks1, ks2, ks3]
theorem g_cells {H : Hp} {t c : Addr} {p l : Int} (h : H t = some (.dK (tpd c p l))) : DGet H t (.str "cells") (some (.ref c)) := by
  have q := DGet.k (k := Sum.inr ("cells" : Str)) h
  rw [tp_cells] at q
  exact q
theorem g_place {H : Hp} {t c : Addr} {p l : Int} (h : H t = some (.dK (tpd c p l))) : DGet H t (.str "place") (some (.int p)) := by
  have q := DGet.k (k := Sum.inr ("place" : Str)) h
  rw [tp_place] at q
  exact q
theorem g_left {H : Hp} {t c : Addr} {p l : Int} (h : H t = some (.dK (tpd c p l))) : DGet H t (.str "left") (some (.int l)) := by
  have q := DGet.k (k := Sum.inr ("left" : Str)) h
  rw [tp_left] at q
  exact q
theorem p_place {H : Hp} {t c : Addr} {p l : Int} (q : Int) (h : H t = some (.dK (tpd c p l))) : DPut H t (.str "place") (.int q) (upd H t (.dK (tpd c q l))) := by
  have z := DPut.k (k := Sum.inr ("place" : Str)) (v := V.int q) h (by show 3 < sizeLine; decide)
  rw [tp_put_place] at z
  exact z
theorem p_left {H : Hp} {t c : Addr} {p l : Int} (q : Int) (h : H t = some (.dK (tpd c p l))) : DPut H t (.str "left") (.int q) (upd H t (.dK (tpd c p q))) := by
  have z := DPut.k (k := Sum.inr ("left" : Str)) (v := V.int q) h (by show 3 < sizeLine; decide)
  rw [tp_put_left] at z
  exact z
def spBegin (K : PySem.W.Frag) : Sp := fun vs H Q _ => ∃ (a : Addr) (ns : List Int), vs = [.ref a] ∧ SqL K H a (ns.map V.int) ∧ ∀ H' t c, Same H H' → H t = none → H c = none → Tape H' t c 0 → Q (.ref t) H'
def spDraw : Sp := fun vs H Q _ => ∃ (t c : Addr) (m : Int) (n : Nat), vs = [.ref t, .int m] ∧ Tape H t c n ∧ n < 2 ^ 40 ∧ 0 < m ∧ m < 2 ^ 30 ∧ ∀ H' r, Kp t H H' → Tape H' t c (n + 1) → 0 ≤ r → r < m → Q (.int r) H'
/-- pick: from a list, from a text -/
def spPick (K : PySem.W.Frag) : Sp := fun vs H Q _ => ∃ (t c : Addr) (n : Nat) (x : V), vs = [.ref t, x] ∧ Tape H t c n ∧ n < 2 ^ 40 ∧
  ((∃ a xs, x = .ref a ∧ SqL K H a xs ∧ xs ≠ [] ∧ xs.length < 2 ^ 30 ∧ ∀ H' y, Kp t H H' → Tape H' t c (n + 1) → y ∈ xs → Q y H') ∨
   (∃ z : Str, x = .str z ∧ z.length ≠ 0 ∧ z.length < 2 ^ 20 ∧ ∀ H' d, Kp t H H' → Tape H' t c (n + 1) → d ∈ z.cps.toList → Q (.str ⟨#[d]⟩) H'))
section
variable {P : Program} {w : World} {K : PySem.W.Frag} {mg : Str → Option Value} {base : Heap}
theorem scBegin : FnScope ["_law_script"] ["_law_script"] (defScope sBegin) := ⟨rfl, rfl, rfl, by decide +kernel, rfl, by decide +kernel, by decide +kernel⟩
theorem cut63 (ns : List Int) : ∃ ms : List Int, cutV (ns.map V.int) none (some 63) = ms.map V.int ∧ ms.length ≤ 63 := by
  refine ⟨ns.take 63, ?_, ?_⟩
  · unfold cutV
    rw [HT.sIx_none, show HT.sIx (ns.map V.int).length (ns.map V.int).length (some 63) = min 63 (ns.map V.int).length from HT.sIx_nat _ _ 63, List.map_take]
    show List.take _ (List.drop 0 _) = _
    rw [List.drop_zero, Nat.sub_zero]
    by_cases c : 63 ≤ (ns.map V.int).length
    · rw [Nat.min_eq_left c]
    · rw [Nat.min_eq_right (by omega), List.take_length, List.take_of_length_le (by omega)]
  · rw [List.length_take]
    omega
theorem ok_begin (D : Df K mg "_law_begin" sBegin ["_law_script"]) : FnOk P w K mg base CX0 1 D.f D.fd ["_law_script"] (spBegin K) := by
  refine D.F.ok scBegin (fun vs H Q E h => ?_) (fun cdv A outer s H vs Q E hr h => ?_)
  · obtain ⟨a, ns, rfl, _⟩ := h
    rfl
  · obtain ⟨a, ns, rfl, hS, k⟩ := h
    refine ⟨_, pss_one (ps_ret (pe_disp (pps_cons pe_str (pe_orT (pe_slice sl_list (pv 0) po_none (po_some pe_int)) (pe_one (pe_lst (pa_cons pe_int pa_nil)))) (pps_cons pe_str pe_int (pps_cons pe_str pe_int pps_nil))) (by rfl) (by rfl) (fun z => by cases z) (by decide))), ?_⟩
    intro t ht
    have s1 : Same H (upd H t (.dK [])) := same_upd ht
    obtain ⟨ms, em, hm⟩ := cut63 ns
    refine ⟨_, rfl, 63, rfl, a, ns.map V.int, rfl, s1.seq hS, fun c hc => ?_⟩
    have nct : c ≠ t := fun z => by
      rw [z, upd_same] at hc
      cases hc
    rw [em]
    refine ⟨!(ms.map V.int).isEmpty, .inl ⟨_, SqL.of upd_same, rfl⟩, ite2 (fun e => ?_) (fun e => ?_)⟩
    · refine ⟨Eq.trans (upd_ne nct.symm) upd_same, tpd c 0 0, rfl, by show 3 ≤ 15; decide, ?_⟩
      rw [tp_merge]
      refine k _ t c (fun b o eb => ?_) ht (s1.free hc) ⟨ms, 0, 0, upd_same, Eq.trans (upd_ne nct) upd_same, ?_, hm, Nat.le_refl _, Int.le_refl _⟩
      · have nb : b ≠ t := ne_of_none eb ht
        rw [upd_ne nb]
        exact same_upd hc _ _ (s1 _ _ eb)
      · cases ms with
        | nil => cases e
        | cons x r => exact Nat.succ_pos _
    · refine ⟨by show 1 ≤ sizeLine; decide, fun d hd => ?_⟩
      have ndt : d ≠ t := fun z => by
        rw [z, upd_ne nct.symm, upd_same] at hd
        cases hd
      refine ⟨Eq.trans (upd_ne ndt.symm) (Eq.trans (upd_ne nct.symm) upd_same), tpd d 0 0, rfl, by show 3 ≤ 15; decide, ?_⟩
      rw [tp_merge]
      refine k _ t d (fun b o eb => ?_) ht (s1.free ((same_upd hc).free hd)) ⟨[0], 0, 0, upd_same, Eq.trans (upd_ne ndt) upd_same, Nat.succ_pos _, by decide, Nat.le_refl _, Int.le_refl _⟩
      have nb : b ≠ t := ne_of_none eb ht
      rw [upd_ne nb]
      exact same_upd hd _ _ (same_upd hc _ _ (s1 _ _ eb))
theorem scDraw : FnScope ["_law_tape", "_law_many", "_law_place", "_law_count", "_law_cell", "_law_found"] ["_law_tape", "_law_many"] (defScope sDraw) := ⟨rfl, rfl, rfl, by decide +kernel, rfl, by decide +kernel, by decide +kernel⟩
theorem tape_put {H : Hp} {t c : Addr} {cells : List Int} {n p : Nat} {l : Int} {kvs : List (Key × V)} (e : H t = some (.dK kvs)) (hc : H c = some (.lst (cells.map V.int))) (h1 : 0 < cells.length) (h2 : cells.length ≤ 63) (hp : p ≤ n) (hl : 0 ≤ l) :
    Tape (upd H t (.dK (tpd c p l))) t c n := by
  have nct : c ≠ t := ne_of hc e (by intro z; cases z)
  exact ⟨cells, p, l, upd_same, Eq.trans (upd_ne nct) hc, h1, h2, hp, hl⟩
theorem kp_put {H : Hp} {t : Addr} {kvs kvs' : List (Key × V)} (e : H t = some (.dK kvs)) : Kp t H (upd H t (.dK kvs')) := ⟨⟨_, e⟩, ⟨_, upd_same⟩, fun b o n h => (upd_ne n).trans h⟩
theorem ok_draw (D : Df K mg "_law_draw" sDraw ["_law_tape", "_law_many"]) (ml : mg "len" = none) : FnOk P w K mg base CX0 1 D.f D.fd ["_law_tape", "_law_many"] spDraw := by
  refine D.F.ok scDraw (fun vs H Q E h => ?_) (fun cdv A outer s H vs Q E hr h => ?_)
  · obtain ⟨t, c, m, n, rfl, _⟩ := h
    rfl
  · obtain ⟨t, c, m, n, rfl, T, hn, m0, m1, k⟩ := h
    have hu := hu_of hr
    refine ⟨_, C8.pss_cut (ps_if (pt_cmpR op_lt (pe_dget hu (pv 0) pe_str (fun _ _ => rfl)) (pv 1) (nomark _))
        (pss_cons (ps_par (i := 2) (j := 3) rfl scDraw.nd rfl rfl (by decide) rfl rfl (pa_cons (pe_dget hu (pv 0) pe_str (fun _ _ => rfl)) (pa_cons (pe_callB call_len_seq (by rfl) ml PySem.boot_len (pa_cons (pe_dget hu (pv 0) pe_str (fun _ _ => rfl)) pa_nil)) pa_nil)) (by rfl))
        (pss_cons (ps_asg (pe_tup (pa_cons (pe_ix ix_list (pe_dget hu (pv 0) pe_str (fun _ _ => rfl)) (pe_op op_mod (pv 2) (pv 3)) (fun _ _ => rfl)) (pa_cons (pe_op op_add (pv 2) pe_int) pa_nil)))
            (pg_tup rfl (pgs_cons (pg_name (i := 4) scDraw.nd rfl (.inl rfl)) (pgs_cons (pg_sub (pv 0) pe_str (set_dict hu)) pgs_nil))))
        (pss_cons (ps_dput hu (pv 0) pe_str (pe_op op_mod (pe_op op_pow (pe_op op_add (pe_op op_add (pe_op op_mod (pv 4) pe_int) (pe_op op_mul pe_int (pv 2))) pe_int) pe_int) (pe_op op_add (pe_op op_pow pe_int pe_int) pe_int)) rfl)
        (pss_one (ps_if (pw_and (pt_cmpR op_ge (pv 4) (pe_op op_pow pe_int pe_int) (nomark _)) (pw_and1 (pt_cmpR op_lt (pv 2) (pv 3) (nomark _)))).pt
          (pss_one (ps_dput hu (pv 0) pe_str (pe_op op_sub (pv 4) (pe_op op_pow pe_int pe_int)) rfl)) pss_nil))))) pss_nil)
      (pss_cons (ps_asg (pe_tup (pa_cons (pe_op op_mod (pe_dget hu (pv 0) pe_str (fun _ _ => rfl)) (pv 1)) (pa_cons (pe_op op_fdiv (pe_dget hu (pv 0) pe_str (fun _ _ => rfl)) (pv 1)) pa_nil)))
            (pg_tup rfl (pgs_cons (pg_name (i := 5) scDraw.nd rfl (.inl rfl)) (pgs_cons (pg_sub (pv 0) pe_str (set_dict hu)) pgs_nil))))
      (pss_one (ps_ret (pv 5)))), ?_⟩
    have m1' : m < 1073741824 := m1
    obtain ⟨cells, p, l, ht, hc, c0, c63, hp, l0⟩ := T.ex
    refine ⟨fun σ' H' => ∃ y2 y3 y4, σ' = [some (.ref t), some (.int m), y2, y3, y4, none] ∧ Kp t H H' ∧ Tape H' t c (n + 1), ?_, ?_⟩
    · refine ⟨.ref t, rfl, t, .int l, rfl, g_left ht, .int m, rfl, l, m, rfl, rfl, _, rfl, ite2 (fun e => ?_) (fun e => ?_)⟩
      · refine ⟨.ref t, rfl, t, .int p, rfl, g_place ht, .ref t, rfl, t, .ref c, rfl, g_cells ht, c, _, rfl, .inl (SqL.of hc), _, _, rfl, ?_⟩
        have lp : 0 < (cells.map V.int).length := by
          rw [List.length_map]
          exact c0
        have jl : p % (cells.map V.int).length < cells.length := by
          have := Nat.mod_lt p lp
          rw [List.length_map] at this ⊢
          exact this
        have ga : (cells.map V.int)[p % (cells.map V.int).length]? = some (.int cells[p % (cells.map V.int).length]) := by
          rw [List.getElem?_map, List.getElem?_eq_getElem jl]
          rfl
        generalize cells[p % (cells.map V.int).length] = z at ga
        refine ⟨.ref t, rfl, t, .ref c, rfl, g_cells ht, _, rfl, _, rfl, (p : Int), ((cells.map V.int).length : Int), rfl, rfl, by omega, c, _, _, .int z, rfl, rfl, SqL.of hc, at_of (j := p % (cells.map V.int).length) (by rw [Int.natCast_emod]) ga, .int p, rfl, (p : Int), 1, rfl, rfl, by show 2 ≤ sizeLine; decide, fun q hq => ?_⟩
        have s1 : Same H (upd H q (.tup [.int z, .int ((p : Int) + 1)])) := same_upd hq
        have ht1 := s1 _ _ ht
        have hc1 := s1 _ _ hc
        have nct : c ≠ t := ne_of hc ht (by intro z; cases z)
        refine ⟨q, _, rfl, SqT.of upd_same, rfl, _, _, rfl, _, _, rfl, .ref t, rfl, t, _, rfl, p_place ((p : Int) + 1) ht1, rfl, ?_⟩
        have hn' : n < 1099511627776 := hn
        have zm0 : 0 ≤ z % 2147483647 := Int.emod_nonneg _ (by decide)
        have zm1 : z % 2147483647 < 2147483647 := Int.emod_lt_of_pos _ (by decide)
        have b0 : (z % 2147483647 + 69621 * (p : Int) + 48271).natAbs < 2 ^ 64 := by omega
        refine ⟨.int z, rfl, z, 2147483647, rfl, rfl, (by show (0 : Int) < 2147483647; decide), .int p, rfl, 69621, (p : Int), rfl, rfl, .inl ⟨by decide, by decide⟩, _, _, rfl, rfl, _, 48271, rfl, rfl, _, 17, rfl, rfl, ⟨by decide, by decide, b0⟩, 10, 50, rfl, rfl, ⟨by decide, by decide, by decide⟩, _, 151, rfl, rfl, _, _, rfl, rfl, ?_, ?_⟩
        · exact (by decide +kernel : (0 : Int) < 10 ^ (50 : Int).toNat + 151)
        have ht2 : (upd (upd H q (.tup [.int z, .int ((p : Int) + 1)])) t (.dK (tpd c ((p : Int) + 1) l))) t = some (.dK (tpd c ((p : Int) + 1) l)) := upd_same
        refine ⟨.ref t, rfl, t, _, rfl, p_left ((z % 2147483647 + 69621 * (p : Int) + 48271) ^ (17 : Int).toNat % (10 ^ (50 : Int).toNat + 151)) ht2, ?_⟩
        have x0 : 0 ≤ (z % 2147483647 + 69621 * (p : Int) + 48271) ^ (17 : Int).toNat % (10 ^ (50 : Int).toNat + 151) := Int.emod_nonneg _ (by decide +kernel)
        generalize (z % 2147483647 + 69621 * (p : Int) + 48271) ^ (17 : Int).toNat % (10 ^ (50 : Int).toNat + 151) = x17 at x0 ⊢
        have k3 : Kp t H (upd (upd (upd H q (.tup [.int z, .int ((p : Int) + 1)])) t (.dK (tpd c ((p : Int) + 1) l))) t (.dK (tpd c ((p : Int) + 1) x17))) := ((Kp.of ht s1).trans (kp_put ht1)).trans (kp_put ht2)
        have hc3 := k3.at hc (fun _ z => by cases z)
        refine ⟨.int z, rfl, 10, 18, rfl, rfl, ⟨by decide, by decide, by decide⟩, z, _, rfl, rfl, _, rfl, ite2 (fun e2 => ?_) (fun e2 => ?_)⟩
        · refine ⟨.int p, rfl, _, rfl, _, _, rfl, rfl, _, rfl, ite2 (fun e3 => ?_) (fun e3 => ?_)⟩
          · have hz : (0 : Int) ≤ z - 10 ^ (18 : Int).toNat := by
              have e4 : (10 : Int) ^ (18 : Int).toNat ≤ z := of_decide_eq_true e2
              omega
            refine ⟨.int z, rfl, 10, 18, rfl, rfl, ⟨by decide, by decide, by decide⟩, z, _, rfl, rfl, .ref t, rfl, t, _, rfl, p_left (z - 10 ^ (18 : Int).toNat) upd_same, ?_⟩
            exact ⟨_, _, _, rfl, k3.trans (kp_put upd_same), tape_put (p := p + 1) upd_same hc3 c0 c63 (by omega) hz⟩
          · exact ⟨_, _, _, rfl, k3, ⟨cells, p + 1, x17, upd_same, hc3, c0, c63, by omega, x0⟩⟩
        · exact ⟨_, _, _, rfl, k3, ⟨cells, p + 1, x17, upd_same, hc3, c0, c63, by omega, x0⟩⟩
      · exact ⟨none, none, none, rfl, Kp.refl T, T.mono (Nat.le_succ n)⟩
    · rintro σ' H' ⟨y2, y3, y4, rfl, k1, T1⟩
      obtain ⟨cells, p, l, ht, hc, c0, c63, hp, l0⟩ := T1.ex
      refine ⟨.ref t, rfl, t, .int l, rfl, g_left ht, .int m, rfl, l, m, rfl, rfl, m0, .ref t, rfl, t, .int l, rfl, g_left ht, .int m, rfl, l, m, rfl, rfl, ⟨m0, m1⟩, by show 2 ≤ sizeLine; decide, fun q hq => ?_⟩
      have s1 : Same H' (upd H' q (.tup [.int (l % m), .int (l / m)])) := same_upd hq
      have ht1 := s1 _ _ ht
      refine ⟨q, _, rfl, SqT.of upd_same, rfl, _, _, rfl, _, _, rfl, .ref t, rfl, t, _, rfl, p_left (l / m) ht1, rfl, ?_⟩
      refine ⟨_, rfl, k _ _ ((k1.trans (T1.kp s1)).trans (kp_put ht1)) (tape_put ht1 (s1 _ _ hc) c0 c63 hp (Int.ediv_nonneg l0 (by omega))) (Int.emod_nonneg _ (by omega)) (Int.emod_lt_of_pos _ m0)⟩
theorem at_cp {α : Type} {xs : List α} {z : Int} {j : Nat} {v : α} (e : z = (j : Int)) (h : xs[j]? = some v) : atI xs z = some v := by
  rw [e]
  exact atI_nat h
theorem scPick : FnScope ["_law_tape", "_law_items"] ["_law_tape", "_law_items"] (defScope sPick) := ⟨rfl, rfl, rfl, by decide +kernel, rfl, by decide +kernel, by decide +kernel⟩
theorem ok_pick (D : Df K mg "_law_pick" sPick ["_law_tape", "_law_items"]) (Dd : Df K mg "_law_draw" sDraw ["_law_tape", "_law_many"]) (ml : mg "len" = none) : FnOk P w K mg base CX0 2 D.f D.fd ["_law_tape", "_law_items"] (spPick K) := by
  have Gd : FnOk P w K mg base CX0 1 Dd.f Dd.fd ["_law_tape", "_law_many"] spDraw := ok_draw Dd ml
  refine D.F.ok scPick (fun vs H Q E h => ?_) (fun cdv A outer s H vs Q E hr h => ?_)
  · obtain ⟨t, c, n, x, rfl, _⟩ := h
    rfl
  · obtain ⟨t, c, n, x, rfl, T, hn, h⟩ := h
    rcases h with ⟨a, xs, rfl, hx, ne, hl, k⟩ | ⟨z, rfl, ne, hl, k⟩
    · refine ⟨_, pss_one (ps_ret (pe_ix ix_list (pv 1) (pe_call Gd hr (by rfl) Dd.g Dd.F.kp Dd.b .nil pass0 (pa_cons (pv 0) (pa_cons (pe_callB call_len_seq (by rfl) ml PySem.boot_len (pa_cons (pv 1) pa_nil)) pa_nil))) (fun _ _ => rfl))), ?_⟩
      have l0 : 0 < xs.length := List.length_pos_iff.mpr ne
      refine ⟨.ref a, rfl, .ref t, rfl, .ref a, rfl, a, xs, rfl, .inl hx, t, c, _, n, rfl, T, hn, by omega, by omega, fun H' r k1 T1 r0 r1 => ?_⟩
      have rl : r.toNat < xs.length := by omega
      refine ⟨a, xs, r, xs[r.toNat], rfl, rfl, k1.lst hx, at_of (j := r.toNat) (by omega) (List.getElem?_eq_getElem rl), k H' _ k1 T1 (List.getElem_mem rl)⟩
    · refine ⟨_, pss_one (ps_ret (pe_ix ix_str (pv 1) (pe_call Gd hr (by rfl) Dd.g Dd.F.kp Dd.b .nil pass0 (pa_cons (pv 0) (pa_cons (pe_callB call_len_str (by rfl) ml PySem.boot_len (pa_cons (pv 1) pa_nil)) pa_nil))) (fun _ _ => rfl))), ?_⟩
      have zl : z.cps.toList.length = z.length := Array.length_toList
      refine ⟨.str z, rfl, .ref t, rfl, .str z, rfl, z, rfl, ?_, t, c, _, n, rfl, T, hn, by omega, by omega, fun H' r k1 T1 r0 r1 => ?_⟩
      · rw [sizeLine_eq]; omega
      have rl : r.toNat < z.cps.toList.length := by omega
      refine ⟨z, r, z.cps.toList[r.toNat], rfl, rfl, ?_, at_cp (by omega) (List.getElem?_eq_getElem rl), k H' _ k1 T1 (List.getElem_mem rl)⟩
      rw [sizeLine_eq]
      omega
end
end DW
namespace DW
open PySem PySem.Spec PyProof.Rows L2 TL
set_option autoImplicit false
/-! ### texts as lists of codes -/
def one (c : Nat) : Str := ⟨#[c]⟩
theorem tl_one (c : Nat) : tl (one c) = [c] := rfl
theorem tl_inj {x y : Str} (h : tl x = tl y) : x = y := by
  obtain ⟨⟨a⟩⟩ := x
  obtain ⟨⟨b⟩⟩ := y
  have e : a = b := h
  rw [e]
theorem joinL_nil : ∀ l : List (List Nat), joinL [] l = l.flatten
  | [] => rfl
  | [p] => by simp [joinL]
  | p :: q :: r => by
    show p ++ ([] ++ joinL [] (q :: r)) = (p :: q :: r).flatten
    rw [joinL_nil (q :: r)]
    simp
theorem tl_cat (ys : List Str) : tl (Txt.join "" ys) = (ys.map tl).flatten := by
  have e : tl (Str.join "" ys) = joinL (tl "") (ys.map tl) := tl_join "" ys
  rw [join_eq, e, show tl "" = [] from rfl, joinL_nil]
theorem flat_ones (cs : List Nat) : ((cs.map one).map tl).flatten = cs := by
  induction cs with
  | nil => rfl
  | cons c r ih =>
    show [c] ++ ((r.map one).map tl).flatten = c :: r
    rw [ih]
    rfl
theorem lt_ones (x p : Nat) : ltCps (tl (one x)) (tl (one p)) = decide (x < p) := by
  simp [one, ltCps]
theorem sorted_ones : ∀ ys : List Str, (∀ y ∈ ys, ∃ c, y = one c) → ys.Nodup → sortedS ys = true → ∃ cs : List Nat, ys = cs.map one ∧ cs.Pairwise (· < ·)
  | [], _, _, _ => ⟨[], rfl, List.Pairwise.nil⟩
  | [y], h, _, _ => by
    obtain ⟨c, rfl⟩ := h y List.mem_cons_self
    exact ⟨[c], rfl, List.pairwise_singleton _ _⟩
  | y :: z :: r, h, nd, so => by
    obtain ⟨hy, nd'⟩ := List.nodup_cons.mp nd
    obtain ⟨c, rfl⟩ := h y List.mem_cons_self
    obtain ⟨d, rfl⟩ := h z (List.mem_cons_of_mem _ List.mem_cons_self)
    have so' : (!ltCps (tl (one d)) (tl (one c)) && risingS (one d) r) = true := so
    rw [Bool.and_eq_true] at so'
    obtain ⟨cs, e, pw⟩ := sorted_ones (one d :: r) (fun u hu => h u (List.mem_cons_of_mem _ hu)) nd' so'.2
    have lt : c < d := by
      have q := so'.1
      rw [lt_ones] at q
      have n1 : ¬ d < c := by simpa using q
      have n2 : c ≠ d := fun z => hy (by rw [z]; exact List.mem_cons_self)
      omega
    cases cs with
    | nil => cases e
    | cons d' cs =>
      have e1 : one d = one d' := (List.cons.inj e).1
      have e2 : d = d' := by
        have q := congrArg tl e1
        exact (List.cons.inj q).1
      subst e2
      refine ⟨c :: d :: cs, by rw [List.map_cons, ← e], List.pairwise_cons.mpr ⟨fun u hu => ?_, pw⟩⟩
      rcases List.mem_cons.mp hu with q | q
      · omega
      · have := (List.pairwise_cons.mp pw).1 u q
        omega
theorem sum_ones : ∀ ys : List Str, (∀ y ∈ ys, ∃ c, y = one c) → (ys.map (·.length)).sum = ys.length
  | [], _ => rfl
  | y :: r, h => by
    obtain ⟨c, rfl⟩ := h y List.mem_cons_self
    rw [List.map_cons, List.sum_cons, sum_ones r fun u hu => h u (List.mem_cons_of_mem _ hu), List.length_cons]
    show 1 + r.length = r.length + 1
    omega
theorem yes {σ : L2.St} {H : Hp} {F G : Hp → Prop} (h : F H) : tYes σ H (fun b H3 => if b = true then F H3 else G H3) := by
  show (if true = true then F H else G H)
  rw [if_pos rfl]
  exact h
/-- an alphabet -/
def Alph (z : Str) : Prop := (tl z).Pairwise (· < ·) ∧ 1 ≤ (tl z).length ∧ (tl z).length ≤ 3 ∧ ∀ c ∈ tl z, 97 ≤ c ∧ c ≤ 122
def abc : Str := "abcdefghijklmnopqrstuvwxyz"
theorem abc_low : ∀ c ∈ tl abc, 97 ≤ c ∧ c ≤ 122 := by decide +kernel
theorem abc_len : (tl abc).length = 26 := by decide +kernel
theorem al1 : Alph "ab" := by unfold Alph; decide +kernel
theorem al2 : Alph "abc" := by unfold Alph; decide +kernel
theorem al3 : Alph "a" := by unfold Alph; decide +kernel
theorem al4 : Alph "bx" := by unfold Alph; decide +kernel
theorem al5 : Alph "cmz" := by unfold Alph; decide +kernel
theorem alph_of {ds : List Nat} {ls ys : List Str} (h1 : 1 ≤ ds.length) (h3 : ds.length ≤ 3) (low : ∀ c ∈ ds, 97 ≤ c ∧ c ≤ 122) (nd : ls.Nodup) (mem : ∀ k, k ∈ ls ↔ k ∈ ds.map one) (le : ls.length ≤ (ds.map one).length)
    (pm : ys.Perm ls) (so : sortedS ys = true) : Alph (Txt.join "" ys) := by
  have hm : ∀ y ∈ ys, y ∈ ds.map one := fun y hy => (mem y).mp (pm.mem_iff.mp hy)
  obtain ⟨cs, rfl, pw⟩ := sorted_ones ys (fun y hy => by
    obtain ⟨c, _, e⟩ := List.mem_map.mp (hm y hy)
    exact ⟨c, e.symm⟩) (pm.nodup_iff.mpr nd) so
  have e : tl (Txt.join "" (cs.map one)) = cs := by rw [tl_cat, flat_ones]
  have hl : cs.length = ls.length := by
    have q := pm.length_eq
    rw [List.length_map] at q
    exact q
  rw [List.length_map] at le
  unfold Alph
  rw [e]
  refine ⟨pw, ?_, by omega, fun c hc => ?_⟩
  · cases ds with
    | nil => cases h1
    | cons d r =>
      have q : one d ∈ ls := (mem _).mpr List.mem_cons_self
      have q2 : one d ∈ cs.map one := pm.mem_iff.mpr q
      have := List.length_pos_of_mem q2
      rw [List.length_map] at this
      omega
  · obtain ⟨d, hd, e⟩ := List.mem_map.mp (hm (one c) (List.mem_map.mpr ⟨c, hc, rfl⟩))
    have e2 : d = c := by
      have q := congrArg tl e
      exact (List.cons.inj q).1
    rw [← e2]
    exact low d hd
/-! ### what the module's names hold -/
structure Bl (mg : Str → Option Value) : Prop where
  len : mg "len" = none
  range : mg "range" = none
  sorted : mg "sorted" = none
  set : mg "set" = none
def spAlpha : Sp := fun vs H Q _ => ∃ (t c : Addr) (n : Nat), vs = [.ref t] ∧ Tape H t c n ∧ n + 10 < 2 ^ 40 ∧ ∀ H' z, Kp t H H' → Tape H' t c (n + 10) → Alph z → Q (.str z) H'
abbrev DfDraw (K : PySem.W.Frag) (mg : Str → Option Value) := Df K mg "_law_draw" sDraw ["_law_tape", "_law_many"]
abbrev DfPick (K : PySem.W.Frag) (mg : Str → Option Value) := Df K mg "_law_pick" sPick ["_law_tape", "_law_items"]
end DW
namespace DW
open PySem PySem.Spec PyProof.Rows L2 TL
set_option autoImplicit false
section
variable {P : Program} {w : World} {K : PySem.W.Frag} {mg : Str → Option Value} {base : Heap}
theorem scAlpha : FnScope ["_law_tape", "_law_letters", "_law_drawn", "_law_k"] ["_law_tape"] (defScope sAlpha) := ⟨rfl, rfl, rfl, by decide +kernel, rfl, by decide +kernel, by decide +kernel⟩
theorem ok_alpha (D : Df K mg "_law_alphabet" sAlpha ["_law_tape"]) (Dd : DfDraw K mg) (Dp : DfPick K mg) (B : Bl mg) : FnOk P w K mg base CX0 3 D.f D.fd ["_law_tape"] spAlpha := by
  have Gd : FnOk P w K mg base CX0 1 Dd.f Dd.fd ["_law_tape", "_law_many"] spDraw := ok_draw Dd B.len
  have Gp : FnOk P w K mg base CX0 2 Dp.f Dp.fd ["_law_tape", "_law_items"] (spPick K) := ok_pick Dp Dd B.len
  refine D.F.ok scAlpha (fun vs H Q E h => ?_) (fun cdv A outer s H vs Q E hr h => ?_)
  · obtain ⟨t, c, n, rfl, _⟩ := h
    rfl
  · obtain ⟨t, c, n, rfl, T, hn, k⟩ := h
    have hr1 : Room 1 _ := hr.mono (by decide)
    refine ⟨_, pss_cons (ps_set (i := 1) scAlpha.nd rfl (Or.inr rfl) pe_str)
      (pss_cons (ps_setLc (i := 2) (own := [("_law_k", 3)]) (g := gName 3) (tt := tYes) rfl scAlpha.nd rfl rfl (sw_true rfl rfl rfl (by decide +kernel))
        (pi_range1 rfl B.range (pa_cons (pe_op op_add pe_int (pe_call Gd hr1 (by rfl) Dd.g Dd.F.kp Dd.b .nil pass0 (pa_cons (pv 0) (pa_cons pe_int pa_nil)))) pa_nil))
        (blkOk_by (N := ["_law_tape", "_law_letters", "_law_drawn", "_law_k"]) (sc := defScope sAlpha) (by decide +kernel)) (fun _ _ _ _ _ => pg_name (i := 3) scAlpha.nd rfl (Or.inl rfl)) (fun _ _ _ _ _ => pts_nil)
        (fun _ _ _ _ _ => pe_ix ix_str (pv 1) (pe_call Gd hr1 (by rfl) Dd.g Dd.F.kp Dd.b .nil pass0 (pa_cons (pv 0) (pa_cons pe_int pa_nil))) (fun _ _ => rfl)))
      (pss_one (ps_ret (pe_call Gp hr (by rfl) Dp.g Dp.F.kp Dp.b .nil pass0 (pa_cons (pv 0) (pa_cons
        (pe_op op_cat (pe_lst (pa_cons pe_str (pa_cons pe_str (pa_cons pe_str (pa_cons pe_str (pa_cons pe_str pa_nil))))))
          (pe_op op_rep (pe_lst (pa_cons (pe_join pe_str (pe_callB (TX.cr_sortTx rfl) (by rfl) B.sorted (by decide +kernel) (pa_cons (pe_callTy (TX.cr_setL rfl) (by rfl) B.set (by decide +kernel) (pa_cons (pv 2) pa_nil)) pa_nil))) pa_nil)) pe_int)) pa_nil)))))), ?_⟩
    refine ⟨.ref t, rfl, t, c, 3, n, rfl, T, by omega, by decide, by decide, fun H1 r k1 T1 r0 r1 => ?_⟩
    refine ⟨1, r, rfl, rfl, 1 + r, rfl, by omega, by omega, fun D hD => ?_⟩
    have D1 := T1.ne1 hD
    have D2 := T1.ne2 hD
    have D0 := k1.gone hD
    refine lc_range (lo := 0) (n := (1 + r).toNat) (fun i H' => ∃ ds : List Nat, ds.length = i ∧ (∀ c ∈ ds, 97 ≤ c ∧ c ≤ 122) ∧ H' D = some (.lst ((ds.map one).map V.str)) ∧ Kp t H H' ∧ Tape H' t c (n + 1 + i)) ?_ ?_ ?_
    · exact ⟨[], rfl, fun c hc => (nomatch hc), upd_same, k1.put D0 D1, T1.upd D1 D2⟩
    · rintro i G hi ⟨ds, dl, low, gD, kG, TG⟩
      refine ⟨rfl, yes ?_⟩
      refine ⟨.str abc, rfl, .ref t, rfl, t, c, 26, n + 1 + i, rfl, TG, by omega, by decide, by decide, fun H4 q k4 T4 q0 q1 => ?_⟩
      have ql : q.toNat < (tl abc).length := by
        rw [abc_len]
        omega
      have gD4 := k4.at gD (fun _ z => by cases z)
      refine ⟨abc, q, (tl abc)[q.toNat], rfl, rfl, by decide +kernel, at_cp (j := q.toNat) (by omega) (List.getElem?_eq_getElem ql), _, gD4, ?_, ?_⟩
      · rw [List.length_map, List.length_map, dl, sizeLine_eq]
        omega
      · refine ⟨ds ++ [(tl abc)[q.toNat]], by rw [List.length_append, dl]; rfl, fun c hc => ?_, ?_, ?_, ?_⟩
        · rcases List.mem_append.mp hc with z | z
          · exact low c z
          · rw [List.mem_singleton.mp z]
            exact abc_low _ (List.getElem_mem ql)
        · rw [upd_same, List.map_append, List.map_append]
          rfl
        · exact (kG.trans k4).put D0 D1
        · exact T4.upd D1 D2
    · rintro G ⟨ds, dl, low, gD, kG, TG⟩
      refine ⟨.ref t, rfl, by show 5 ≤ sizeLine; decide, fun l1 e1 => ?_⟩
      have s1 := same_upd (o := .lst [V.str "ab", V.str "abc", V.str "a", V.str "bx", V.str "cmz"]) e1
      refine ⟨⟨_, rfl⟩, .ref D, rfl, D, ds.map one, rfl, SqL.of (s1 _ _ gD), ?_, fun a ls ea nd mem le => ?_⟩
      · rw [List.length_map, dl]
        unfold scanBound
        omega
      have s2 := same_upd (o := TX.SetTx P w a ls) ea
      refine ⟨a, ls, rfl, upd_same, ?_, fun ys p pm so ep => ?_⟩
      · rw [List.length_map] at le
        omega
      have al := alph_of (by omega) (by omega) low nd mem le pm so
      have s3 := same_upd (o := .lst (ys.map V.str)) ep
      refine ⟨"", p, ys, rfl, rfl, .inl (SqL.of upd_same), ?_, by show 1 ≤ sizeLine; decide, fun l2 e2 => ?_⟩
      · rw [sum_ones ys fun y hy => ?_]
        · rw [pm.length_eq]
          rw [List.length_map] at le
          show ls.length + ls.length * 0 ≤ 16777216
          omega
        · obtain ⟨u, _, e⟩ := List.mem_map.mp ((mem y).mp (pm.mem_iff.mp hy))
          exact ⟨u, e.symm⟩
      have s4 := same_upd (o := .lst [V.str (Txt.join "" ys)]) e2
      refine ⟨l2, 5, _, rfl, rfl, upd_same, by decide, by decide, by show 1 * 5 ≤ sizeLine; decide, fun l3 e3 => ?_⟩
      have s5 := same_upd (o := .lst (List.replicate (5 : Int).toNat [V.str (Txt.join "" ys)]).flatten) e3
      refine ⟨l1, l3, _, _, rfl, rfl, s5 _ _ (s4 _ _ (s3 _ _ (s2 _ _ upd_same))), upd_same, by show 5 + 5 ≤ sizeLine; decide, fun l4 e4 => ?_⟩
      have s6 := same_upd (o := .lst ([V.str "ab", V.str "abc", V.str "a", V.str "bx", V.str "cmz"] ++ (List.replicate (5 : Int).toNat [V.str (Txt.join "" ys)]).flatten)) e4
      have sa := ((((s1.trans s2).trans s3).trans s4).trans s5).trans s6
      refine ⟨t, c, n + 1 + (1 + r).toNat, .ref l4, rfl, TG.same sa, by omega, .inl ⟨l4, _, rfl, SqL.of upd_same, by simp, by show 10 < 2 ^ 30; decide, fun H' y k' T' hy => ?_⟩⟩
      have hy' : ∃ z, y = V.str z ∧ Alph z := by
        rcases List.mem_append.mp hy with q | q
        · simp only [List.mem_cons, List.not_mem_nil, or_false] at q
          rcases q with q | q | q | q | q
          · exact ⟨_, q, al1⟩
          · exact ⟨_, q, al2⟩
          · exact ⟨_, q, al3⟩
          · exact ⟨_, q, al4⟩
          · exact ⟨_, q, al5⟩
        · obtain ⟨u, hu, hy⟩ := List.mem_flatten.mp q
          rw [List.eq_of_mem_replicate hu] at hy
          exact ⟨_, List.mem_singleton.mp hy, al⟩
      obtain ⟨z, rfl, az⟩ := hy'
      exact k H' z ((kG.trans (TG.kp sa)).trans k') (T'.mono (by omega)) az
end
end DW
namespace DW
open PySem PySem.Spec PyProof.Rows L2 TL
set_option autoImplicit false
/-! ### text * int, repr(text) -/
theorem foldl_app : ∀ (l : List (Array Nat)) (acc : Array Nat), (l.foldl (· ++ ·) acc).toList = acc.toList ++ (l.map Array.toList).flatten
  | [], acc => by simp
  | a :: r, acc => by
    rw [List.foldl_cons, foldl_app r, Array.toList_append, List.map_cons, List.flatten_cons, List.append_assoc]
theorem tl_mul (z : Str) (k : Int) : tl (Txt.mul z k) = (List.replicate k.toNat (tl z)).flatten := by
  unfold Txt.mul
  by_cases h : k < 1
  · rw [if_pos h, show k.toNat = 0 by omega]
    rfl
  · rw [if_neg h]
    by_cases h2 : (k == 1 || z.length == 0) = true
    · rw [if_pos h2]
      rw [Bool.or_eq_true] at h2
      rcases h2 with e | e
      · rw [eq_of_beq e]
        simp
      · have e0 : tl z = [] := List.length_eq_zero_iff.mp (by rw [Array.length_toList]; exact eq_of_beq e)
        rw [e0]
        simp
    · rw [if_neg h2]
      show ((List.replicate k.toNat z.cps).foldl (· ++ ·) #[]).toList = _
      rw [foldl_app, List.map_replicate]
      simp
section
variable {X : Cx}
def rRepS : R2 := fun x y H Q => ∃ (z : Str) (k : Int), x = .str z ∧ y = .int k ∧ 0 ≤ k ∧ k ≤ 1000 ∧ z.length ≤ 1000 ∧ ∀ r : Str, tl r = (List.replicate k.toNat (tl z)).flatten → Q (.str r) H
theorem op_repS : OpR X (binaryOp .Mult) rRepS := by
  intro pins s σ H x y v u Q I rx ry h
  obtain ⟨z, k, rfl, rfl, k0, k1, zl, q⟩ := h
  obtain ⟨t, rfl⟩ := rx
  obtain ⟨t2, rfl⟩ := ry
  have pr : z.length * k.toNat ≤ 1000 * 1000 := Nat.mul_le_mul zl (by omega)
  refine SB.mul ⟨?_, fun h1 _ h3 => ?_, fun _ _ => ?_⟩ fun t' tk => ⟨.str (Txt.mul z k), H, I.tok _, ⟨_, rfl⟩, q _ (tl_mul z k)⟩
  · have a : ¬ k < -(2 ^ 63) := by omega
    have b : ¬ k ≥ 2 ^ 63 := by omega
    simp [a, b]
    omega
  · have e : (z.length : Int) ≤ (2 ^ 63 - 1) / k := by
      rw [Int.le_ediv_iff_mul_le (by omega)]
      have : ((z.length * k.toNat : Nat) : Int) ≤ 1000 * 1000 := by exact_mod_cast pr
      rw [Int.natCast_mul, Int.toNat_of_nonneg k0] at this
      omega
    omega
  · unfold Builtin.Str.tooLong
    rw [sizeLine_eq]
    simp
    omega
theorem cr_reprS : CallR X (.builtin "repr") (fun xs H Q => ∃ y : Str, xs = [.str y] ∧ (reprText y).length ≤ sizeLine ∧ Q (.str (reprText y)) H) := by
  intro pins s σ H xs us Q I r h
  obtain ⟨y, rfl, hz, q⟩ := h
  obtain ⟨u, rfl, t, rfl⟩ := vals1 r
  exact PySem.P.repr_of_str ⟨.str _, H, I.tok _, ⟨_, rfl⟩, q⟩ hz
end
theorem rc_le : ∀ c, c < 128 → (Builtin.Str.reprChar 34 c).length ≤ 4 ∧ (Builtin.Str.reprChar 39 c).length ≤ 4 := by decide +kernel
theorem rq (x : Str) : reprQuote x = 34 ∨ reprQuote x = 39 := by
  unfold reprQuote
  split
  · exact .inl rfl
  · exact .inr rfl
theorem repr_fold (q : Nat) (hq : q = 34 ∨ q = 39) : ∀ (l : List Nat) (n : Nat), (∀ c ∈ l, c < 128) → l.foldl (fun n c => n + (Builtin.Str.reprChar q c).length) n ≤ n + 4 * l.length
  | [], n, _ => by simp
  | c :: r, n, h => by
    have h1 := rc_le c (h c List.mem_cons_self)
    have h2 : (Builtin.Str.reprChar q c).length ≤ 4 := by
      rcases hq with e | e
      · rw [e]; exact h1.1
      · rw [e]; exact h1.2
    have ih := repr_fold q hq r (n + (Builtin.Str.reprChar q c).length) fun d hd => h d (List.mem_cons_of_mem _ hd)
    rw [List.foldl_cons, List.length_cons]
    omega
theorem repr_le {x : Str} (h : ∀ c ∈ tl x, c < 128) : (reprText x).length ≤ 2 + 4 * (tl x).length := by
  rw [← reprLen_eq, ← Array.foldl_toList]
  exact repr_fold _ (rq x) _ _ h
/-! ### factors, products -/
abbrev Fc := Bool × Str
def kd (b : Bool) : Str := if b then "star" else "opt"
def IsF (K : PySem.W.Frag) (H : Hp) (v : V) (f : Fc) : Prop := ∃ a, v = .ref a ∧ SqT K H a [.str (kd f.1), .str f.2]
def FOk (z : Str) (f : Fc) : Prop := tl f.2 ≠ [] ∧ (tl f.2).Sublist (tl z) ∧ (f.1 = false → (tl f.2).length = 1)
inductive IsFs (K : PySem.W.Frag) (H : Hp) : List V → List Fc → Prop where
  | nil : IsFs K H [] []
  | cons {v : V} {f : Fc} {vs : List V} {fs : List Fc} (h : IsF K H v f) (r : IsFs K H vs fs) : IsFs K H (v :: vs) (f :: fs)
theorem IsFs.snoc {K : PySem.W.Frag} {H : Hp} {v : V} {f : Fc} : ∀ {vs : List V} {fs : List Fc}, IsFs K H vs fs → IsF K H v f → IsFs K H (vs ++ [v]) (fs ++ [f])
  | _, _, .nil, h => .cons h .nil
  | _, _, .cons a r, h => .cons a (r.snoc h)
theorem IsFs.len {K : PySem.W.Frag} {H : Hp} : ∀ {vs : List V} {fs : List Fc}, IsFs K H vs fs → vs.length = fs.length
  | _, _, .nil => rfl
  | _, _, .cons _ r => by rw [List.length_cons, List.length_cons, r.len]
theorem IsFs.get {K : PySem.W.Frag} {H : Hp} : ∀ {vs : List V} {fs : List Fc}, IsFs K H vs fs → ∀ (i : Nat) (v : V), vs[i]? = some v → ∃ f, fs[i]? = some f ∧ IsF K H v f
  | _, _, .nil, i, v, h => by simp at h
  | _, _, .cons a r, 0, v, h => by
    have e := Option.some.inj h
    subst e
    exact ⟨_, rfl, a⟩
  | _, _, .cons a r, i + 1, v, h => r.get i v h
theorem IsF.mono {K : PySem.W.Frag} {H H' : Hp} {v : V} {f : Fc} (h : IsF K H v f) (m : ∀ b xs, SqT K H b xs → SqT K H' b xs) : IsF K H' v f := by
  obtain ⟨a, e, q⟩ := h
  exact ⟨a, e, m _ _ q⟩
theorem IsFs.mono {K : PySem.W.Frag} {H H' : Hp} (m : ∀ b xs, SqT K H b xs → SqT K H' b xs) : ∀ {vs : List V} {fs : List Fc}, IsFs K H vs fs → IsFs K H' vs fs
  | _, _, .nil => .nil
  | _, _, .cons a r => .cons (a.mono m) (r.mono m)
theorem same_tup {H H' : Hp} {K : PySem.W.Frag} (s : Same H H') (b : Addr) (xs : List V) (h : SqT K H b xs) : SqT K H' b xs := by
  rcases h with (h | ⟨o, h⟩) | h
  · exact .inl (.inl (s _ _ h))
  · exact .inl (.inr ⟨o, s _ _ h⟩)
  · exact .inr h
theorem kp_tup {t : Addr} {H H' : Hp} {K : PySem.W.Frag} (k : Kp t H H') (b : Addr) (xs : List V) (h : SqT K H b xs) : SqT K H' b xs := k.tup h
/-- a store at what is no tuple -/
theorem upd_tup {H : Hp} {D : Addr} {xs0 : List V} {o : HO} {K : PySem.W.Frag} (hD : H D = some (.lst xs0)) (b : Addr) (xs : List V) (h : SqT K H b xs) : SqT K (upd H D o) b xs := by
  rcases h with (h | ⟨u, h⟩) | h
  · exact .inl (.inl ((upd_ne (ne_of h hD (by intro z; cases z))).trans h))
  · exact .inl (.inr ⟨u, (upd_ne (ne_of h hD (by intro z; cases z))).trans h⟩)
  · exact .inr h
def IsP (K : PySem.W.Frag) (H : Hp) (v : V) (fs : List Fc) : Prop := ∃ a xs, v = .ref a ∧ SqT K H a xs ∧ IsFs K H xs fs
theorem IsP.mono {K : PySem.W.Frag} {H H' : Hp} {v : V} {fs : List Fc} (h : IsP K H v fs) (m : ∀ b xs, SqT K H b xs → SqT K H' b xs) : IsP K H' v fs := by
  obtain ⟨a, xs, e, q, r⟩ := h
  exact ⟨a, xs, e, m _ _ q, r.mono m⟩
def spFactor (K : PySem.W.Frag) : Sp := fun vs H Q _ => ∃ (t c : Addr) (n : Nat) (z : Str), vs = [.ref t, .str z] ∧ Tape H t c n ∧ n + 10 < 2 ^ 40 ∧ Alph z ∧ ∀ H' v f, Kp t H H' → Tape H' t c (n + 10) → IsF K H' v f → FOk z f → Q v H'
def spProduct (K : PySem.W.Frag) : Sp := fun vs H Q _ => ∃ (t c : Addr) (n : Nat) (z : Str) (m : Int), vs = [.ref t, .str z, .int m] ∧ Tape H t c n ∧ n + 1000 < 2 ^ 40 ∧ Alph z ∧ 0 ≤ m ∧ m ≤ 50 ∧
  ∀ H' v fs, Kp t H H' → Tape H' t c (n + 1000) → IsP K H' v fs → (∀ f ∈ fs, FOk z f) → (fs.length : Int) ≤ m → Q v H'
section
variable {P : Program} {w : World} {K : PySem.W.Frag} {mg : Str → Option Value} {base : Heap}
theorem scFactor : FnScope ["_law_tape", "_law_alphabet_here", "_law_letters", "_law_letter"] ["_law_tape", "_law_alphabet_here"] (defScope sFactor) := ⟨rfl, rfl, rfl, by decide +kernel, rfl, by decide +kernel, by decide +kernel⟩
theorem ok_factor (D : Df K mg "_law_factor" sFactor ["_law_tape", "_law_alphabet_here"]) (Dd : DfDraw K mg) (Dp : DfPick K mg) (B : Bl mg) : FnOk P w K mg base CX0 3 D.f D.fd ["_law_tape", "_law_alphabet_here"] (spFactor K) := by
  have Gd : FnOk P w K mg base CX0 1 Dd.f Dd.fd ["_law_tape", "_law_many"] spDraw := ok_draw Dd B.len
  have Gp : FnOk P w K mg base CX0 2 Dp.f Dp.fd ["_law_tape", "_law_items"] (spPick K) := ok_pick Dp Dd B.len
  refine D.F.ok scFactor (fun vs H Q E h => ?_) (fun cdv A outer s H vs Q E hr h => ?_)
  · obtain ⟨t, c, n, z, rfl, _⟩ := h
    rfl
  · obtain ⟨t, c, n, z, rfl, T, hn, al, k⟩ := h
    have hr1 : Room 1 _ := hr.mono (by decide)
    have zl : z.length = (tl z).length := (Array.length_toList).symm
    obtain ⟨pw, l1, l3, low⟩ := al
    refine ⟨_, pss_cons (ps_if (pt_cmpR op_gt (pe_call Gd hr1 (by rfl) Dd.g Dd.F.kp Dd.b .nil pass0 (pa_cons (pv 0) (pa_cons pe_int pa_nil))) pe_int (nomark _))
        (pss_one (ps_ret (pe_tup (pa_cons pe_str (pa_cons (pe_call Gp hr (by rfl) Dp.g Dp.F.kp Dp.b .nil pass0 (pa_cons (pv 0) (pa_cons (pv 1) pa_nil))) pa_nil))))) pss_nil)
      (pss_cons (ps_set (i := 2) scFactor.nd rfl (Or.inl rfl) (pe_join pe_str (pe_lc (own := [("_law_letter", 3)]) (g := gName 3) rfl scFactor.nd (pi_str (pv 1))
          (blkOk_by (N := ["_law_tape", "_law_alphabet_here", "_law_letters", "_law_letter"]) (sc := defScope sFactor) (by decide +kernel)) (fun _ _ _ _ _ => pg_name (i := 3) scFactor.nd rfl (Or.inl rfl))
          (fun _ _ _ _ _ => pts_one (pt_cmpR op_eq (pe_call Gd hr1 (by rfl) Dd.g Dd.F.kp Dd.b .nil pass0 (pa_cons (pv 0) (pa_cons pe_int pa_nil))) pe_int (nomark _))) (fun _ _ _ _ _ => pv 3))))
      (pss_one (ps_ret (pe_tup (pa_cons pe_str (pa_cons (pe_ifExp (pt_cmpR op_ne (pv 2) pe_str (nomark _)) (pv 2) (pe_call Gp hr (by rfl) Dp.g Dp.F.kp Dp.b .nil pass0 (pa_cons (pv 0) (pa_cons (pv 1) pa_nil)))) pa_nil)))))), ?_⟩
    refine ⟨.ref t, rfl, t, c, 3, n, rfl, T, by omega, by decide, by decide, fun H1 r k1 T1 r0 r1 => ?_⟩
    refine ⟨r, 0, rfl, rfl, _, rfl, ite2 (fun e => ?_) (fun e => ?_)⟩
    · refine ⟨.ref t, rfl, .str z, rfl, t, c, n + 1, .str z, rfl, T1, by omega, .inr ⟨z, rfl, by omega, by omega, fun H2 d k2 T2 hd => ?_⟩⟩
      refine ⟨by show 2 ≤ sizeLine; decide, fun p hp => ?_⟩
      have s3 := same_upd (o := .tup [.str "opt", .str ⟨#[d]⟩]) hp
      exact k _ _ (false, one d) ((k1.trans k2).trans (T2.kp s3)) ((T2.same s3).mono (by omega)) ⟨p, rfl, SqT.of upd_same⟩ ⟨by simp [one], by show [d].Sublist _; exact List.singleton_sublist.mpr hd, fun _ => rfl⟩
    · refine ⟨⟨_, rfl⟩, .str z, rfl, z, rfl, fun D hD => ?_⟩
      have D1 := T1.ne1 hD
      have D2 := T1.ne2 hD
      have D0 := k1.gone hD
      have zs : z.cps.size = (tl z).length := (Array.length_toList).symm
      refine lc_it walk_str (fun i H' => ∃ ds : List Nat, ds.Sublist ((tl z).take i) ∧ H' D = some (.lst ((ds.map one).map V.str)) ∧ Kp t H H' ∧ Tape H' t c (n + 1 + i)) ?_ (fun _ _ _ _ => trivial) ?_ ?_
      · exact ⟨[], List.nil_sublist _, upd_same, k1.put D0 D1, T1.upd D1 D2⟩
      · rintro i x G G' hi ⟨ds, sub, gD, kG, TG⟩ ⟨rfl, d, hd, rfl⟩
        have hd' : (tl z)[i]? = some d := by rw [Array.getElem?_toList]; exact hd
        have tk : (tl z).take (i + 1) = (tl z).take i ++ [d] := by rw [List.take_add_one, hd'] <;> rfl
        have dl : ds.length ≤ 3 := Nat.le_trans (Nat.le_trans sub.length_le (List.length_take_le' ..)) l3
        refine ⟨rfl, .ref t, rfl, t, c, 2, n + 1 + i, rfl, TG, by omega, by decide, by decide, fun H4 q k4 T4 q0 q1 => ?_⟩
        have gD4 := k4.at gD (fun _ z => by cases z)
        refine ⟨rfl, _, rfl, ite2 (fun e2 => ?_) (fun e2 => ?_)⟩
        · refine ⟨_, rfl, _, gD4, ?_, ds ++ [d], ?_, ?_, (kG.trans k4).put D0 D1, T4.upd D1 D2⟩
          · rw [List.length_map, List.length_map, sizeLine_eq]
            omega
          · rw [tk]
            exact sub.append (List.Sublist.refl _)
          · rw [upd_same, List.map_append, List.map_append]
            rfl
        · refine ⟨ds, ?_, gD4, kG.trans k4, T4⟩
          rw [tk]
          exact sub.trans (List.sublist_append_left _ _)
      · rintro G ⟨ds, sub, gD, kG, TG⟩
        have sub' : ds.Sublist (tl z) := sub.trans (List.take_sublist _ _)
        have dl : ds.length ≤ 3 := Nat.le_trans sub'.length_le l3
        refine ⟨"", D, ds.map one, rfl, rfl, .inl (SqL.of gD), ?_, ?_⟩
        · rw [sum_ones _ fun y hy => ?_, List.length_map]
          · show ds.length + ds.length * 0 ≤ 16777216
            omega
          · obtain ⟨u, _, e⟩ := List.mem_map.mp hy
            exact ⟨u, e.symm⟩
        have ej : tl (Txt.join "" (ds.map one)) = ds := by rw [tl_cat, flat_ones]
        refine ⟨.str (Txt.join "" (ds.map one)), rfl, rfl, _, rfl, ite2 (fun e2 => ?_) (fun e2 => ?_)⟩
        · refine ⟨_, rfl, by show 2 ≤ sizeLine; decide, fun p hp => ?_⟩
          have s3 := same_upd (o := .tup [.str "star", .str (Txt.join "" (ds.map one))]) hp
          refine k _ _ (true, Txt.join "" (ds.map one)) (kG.trans (TG.kp s3)) ((TG.same s3).mono (by omega)) ⟨p, rfl, SqT.of upd_same⟩ ⟨?_, by rw [ej]; exact sub', fun z => by cases z⟩
          intro z0
          have e3 : Txt.join "" (ds.map one) = ("" : Str) := tl_inj z0
          rw [e3] at e2
          exact absurd e2 (by decide +kernel)
        · refine ⟨.ref t, rfl, .str z, rfl, t, c, n + 1 + z.cps.size, .str z, rfl, TG, by omega, .inr ⟨z, rfl, by omega, by omega, fun H2 d k2 T2 hd => ?_⟩⟩
          refine ⟨by show 2 ≤ sizeLine; decide, fun p hp => ?_⟩
          have s3 := same_upd (o := .tup [.str "star", .str ⟨#[d]⟩]) hp
          exact k _ _ (true, one d) ((kG.trans k2).trans (T2.kp s3)) ((T2.same s3).mono (by omega)) ⟨p, rfl, SqT.of upd_same⟩ ⟨by simp [one], by show [d].Sublist _; exact List.singleton_sublist.mpr hd, fun z => by cases z⟩
theorem scProduct : FnScope ["_law_tape", "_law_alphabet_here", "_law_longest", "_law_k"] ["_law_tape", "_law_alphabet_here", "_law_longest"] (defScope sProduct) := ⟨rfl, rfl, rfl, by decide +kernel, rfl, by decide +kernel, by decide +kernel⟩
theorem ok_product (D : Df K mg "_law_product" sProduct ["_law_tape", "_law_alphabet_here", "_law_longest"]) (Df0 : Df K mg "_law_factor" sFactor ["_law_tape", "_law_alphabet_here"]) (Dd : DfDraw K mg) (Dp : DfPick K mg) (B : Bl mg) (mt : mg "tuple" = none) :
    FnOk P w K mg base CX0 4 D.f D.fd ["_law_tape", "_law_alphabet_here", "_law_longest"] (spProduct K) := by
  have Gd : FnOk P w K mg base CX0 1 Dd.f Dd.fd ["_law_tape", "_law_many"] spDraw := ok_draw Dd B.len
  have Gf : FnOk P w K mg base CX0 3 Df0.f Df0.fd ["_law_tape", "_law_alphabet_here"] (spFactor K) := ok_factor Df0 Dd Dp B
  refine D.F.ok scProduct (fun vs H Q E h => ?_) (fun cdv A outer s H vs Q E hr h => ?_)
  · obtain ⟨t, c, n, z, m, rfl, _⟩ := h
    rfl
  · obtain ⟨t, c, n, z, m, rfl, T, hn, al, m0, m1, k⟩ := h
    have hr1 : Room 1 _ := hr.mono (by decide)
    refine ⟨_, pss_one (ps_ret (pe_callTy call_tuple_of (by rfl) mt (by decide +kernel) (pa_cons (pe_lc (own := [("_law_k", 3)]) (g := gName 3) rfl scProduct.nd
        (pi_range1 rfl B.range (pa_cons (pe_call Gd hr1 (by rfl) Dd.g Dd.F.kp Dd.b .nil pass0 (pa_cons (pv 0) (pa_cons (pe_op op_add (pv 2) pe_int) pa_nil))) pa_nil))
        (blkOk_by (N := ["_law_tape", "_law_alphabet_here", "_law_longest", "_law_k"]) (sc := defScope sProduct) (by decide +kernel)) (fun _ _ _ _ _ => pg_name (i := 3) scProduct.nd rfl (Or.inl rfl)) (fun _ _ _ _ _ => pts_nil)
        (fun _ _ _ _ _ => pe_call Gf hr (by rfl) Df0.g Df0.F.kp Df0.b .nil pass0 (pa_cons (pv 0) (pa_cons (pv 1) pa_nil)))) pa_nil))), ?_⟩
    refine ⟨.ref t, rfl, .int m, rfl, m, 1, rfl, rfl, t, c, m + 1, n, rfl, T, by omega, by omega, by omega, fun H1 r k1 T1 r0 r1 => ?_⟩
    refine ⟨r, rfl, by omega, by omega, fun D hD => ?_⟩
    have D1 := T1.ne1 hD
    have D2 := T1.ne2 hD
    have D0 := k1.gone hD
    refine lc_range (lo := 0) (n := r.toNat) (fun i H' => ∃ (xs : List V) (fs : List Fc), fs.length = i ∧ H' D = some (.lst xs) ∧ IsFs K H' xs fs ∧ (∀ f ∈ fs, FOk z f) ∧ Kp t H H' ∧ Tape H' t c (n + 1 + 10 * i)) ?_ ?_ ?_
    · exact ⟨[], [], rfl, upd_same, .nil, fun f hf => (nomatch hf), k1.put D0 D1, T1.upd D1 D2⟩
    · rintro i G hi ⟨xs, fs, fl, gD, iF, ok, kG, TG⟩
      refine ⟨rfl, yes ?_⟩
      refine ⟨.ref t, rfl, .str z, rfl, t, c, n + 1 + 10 * i, z, rfl, TG, by omega, al, fun H4 v f k4 T4 isf fok => ?_⟩
      have gD4 := k4.at gD (fun _ z => by cases z)
      have iF4 := iF.mono (kp_tup k4)
      refine ⟨xs, gD4, ?_, xs ++ [v], fs ++ [f], by rw [List.length_append, fl]; rfl, upd_same, (iF4.snoc isf).mono (upd_tup gD4), fun g hg => ?_, (kG.trans k4).put D0 D1, (T4.upd D1 D2).mono (by omega)⟩
      · rw [iF.len, fl, sizeLine_eq]
        omega
      · rcases List.mem_append.mp hg with q | q
        · exact ok g q
        · rw [List.mem_singleton.mp q]
          exact fok
    · rintro G ⟨xs, fs, fl, gD, iF, ok, kG, TG⟩
      refine ⟨D, xs, rfl, .inl ⟨SqL.of gD, fun p hp => ?_⟩⟩
      have s3 := same_upd (o := .tup xs) hp
      exact k _ _ fs (kG.trans (TG.kp s3)) ((TG.same s3).mono (by omega)) ⟨p, xs, rfl, SqT.of upd_same, iF.mono (same_tup s3)⟩ ok (by omega)
end
end DW
namespace DW
open PySem PySem.Spec PyProof.Rows L2 TL
set_option autoImplicit false
/-! ### unfoldings -/
theorem upd_upd2 {H : Hp} {d : Addr} {o u : HO} : upd (upd H d o) d u = upd H d u := by
  funext b
  by_cases e : b = d
  · rw [e, upd_same, upd_same]
  · rw [upd_ne e, upd_ne e, upd_ne e]
def piece (m : Nat) (f : Fc) : List Nat := if f.1 = true then (List.replicate m (tl f.2)).flatten else tl f.2
def unf (fs : List Fc) (m : Nat) : List Nat := (fs.map (piece m)).flatten
theorem piece_len {m : Nat} {f : Fc} (hm : m ≤ 1000) (h : (tl f.2).length ≤ 3) : (piece m f).length ≤ 3000 := by
  unfold piece
  by_cases e : f.1 = true
  · rw [if_pos e, List.length_flatten, List.map_replicate, List.sum_replicate_nat]
    have := Nat.mul_le_mul hm h
    omega
  · rw [if_neg e]
    omega
theorem unf_len {m : Nat} (hm : m ≤ 1000) : ∀ fs : List Fc, (∀ f ∈ fs, (tl f.2).length ≤ 3) → (unf fs m).length ≤ 3000 * fs.length
  | [], _ => Nat.le_refl _
  | f :: r, h => by
    have ih := unf_len hm r fun g hg => h g (List.mem_cons_of_mem _ hg)
    have h1 := piece_len hm (h f List.mem_cons_self)
    have e : (unf (f :: r) m).length = (piece m f).length + (unf r m).length := by
      unfold unf
      rw [List.map_cons, List.flatten_cons, List.length_append]
    rw [List.length_cons, e]
    omega
theorem sum_lens (ys : List Str) : (ys.map (·.length)).sum = ((ys.map tl).flatten).length := by
  rw [List.length_flatten, List.map_map]
  exact congrArg List.sum (List.map_congr_left fun y _ => (Array.length_toList).symm)
theorem unf_snoc (fs : List Fc) (m : Nat) {i : Nat} {f : Fc} (h : fs[i]? = some f) : unf (fs.take (i + 1)) m = unf (fs.take i) m ++ piece m f := by
  unfold unf
  rw [List.take_add_one, h]
  simp
theorem kd_opt (b : Bool) : decide (V.str (kd b) = V.str "opt") = !b := by
  cases b
  · exact decide_eq_true rfl
  · exact decide_eq_false (by unfold kd; decide +kernel)
def spUnfold (K : PySem.W.Frag) : Sp := fun vs H Q _ => ∃ (v : V) (fs : List Fc) (m : Int), vs = [v, .int m] ∧ IsP K H v fs ∧ (∀ f ∈ fs, (tl f.2).length ≤ 3) ∧ fs.length ≤ 100 ∧ 0 ≤ m ∧ m ≤ 1000 ∧
  ∀ H' r, Same H H' → tl r = unf fs m.toNat → Q (.str r) H'
end DW
namespace DW
open PySem PySem.Spec PyProof.Rows L2 TL
set_option autoImplicit false
theorem tl_app (x y : Str) : tl (x ++ y) = tl x ++ tl y := Array.toList_append
def OverW (z : Str) (u : Str) : Prop := ∀ c ∈ tl u, c ∈ tl z
/-! ### the language of a product -/
abbrev ls (f : Fc) : List Nat := tl f.2
inductive Lg : List Fc → List Nat → Prop where
  | nil : Lg [] []
  | skip {f : Fc} {fs : List Fc} {w : List Nat} (h : Lg fs w) : Lg (f :: fs) w
  | opt {f : Fc} {fs : List Fc} {c : Nat} {w : List Nat} (k : f.1 = false) (m : c ∈ ls f) (h : Lg fs w) : Lg (f :: fs) (c :: w)
  | star {f : Fc} {fs : List Fc} {c : Nat} {w : List Nat} (k : f.1 = true) (m : c ∈ ls f) (h : Lg (f :: fs) w) : Lg (f :: fs) (c :: w)
theorem Lg.empty : ∀ fs : List Fc, Lg fs []
  | [] => .nil
  | _ :: fs => .skip (Lg.empty fs)
theorem Lg.tail {fs : List Fc} {c : Nat} {w : List Nat} (h : Lg fs (c :: w)) : Lg fs w := by
  generalize e : c :: w = u at h
  induction h with
  | nil => cases e
  | skip h ih => exact .skip (ih e)
  | opt k m h ih =>
    cases e
    exact .skip h
  | star k m h ih =>
    cases e
    exact h
theorem Lg.drop {fs : List Fc} : ∀ {u v : List Nat}, Lg fs (u ++ v) → Lg fs v
  | [], _, h => h
  | _ :: _, _, h => Lg.drop (Lg.tail h)
theorem Lg.init {fs : List Fc} {u v : List Nat} (h : Lg fs (u ++ v)) : Lg fs u := by
  generalize e : u ++ v = x at h
  induction h generalizing u with
  | nil =>
    obtain ⟨rfl, _⟩ := List.append_eq_nil_iff.mp e
    exact .nil
  | skip h ih => exact .skip (ih e)
  | opt k m h ih =>
    cases u with
    | nil => exact Lg.empty _
    | cons d u =>
      obtain ⟨rfl, e2⟩ := List.cons.inj e
      exact .opt k m (ih e2)
  | star k m h ih =>
    cases u with
    | nil => exact Lg.empty _
    | cons d u =>
      obtain ⟨rfl, e2⟩ := List.cons.inj e
      exact .star k m (ih e2)
theorem Lg.has {fs : List Fc} {c : Nat} {w : List Nat} (h : Lg fs (c :: w)) : ∃ g ∈ fs, c ∈ ls g := by
  generalize e : c :: w = u at h
  induction h with
  | nil => cases e
  | skip h ih =>
    obtain ⟨g, hg, hc⟩ := ih e
    exact ⟨g, List.mem_cons_of_mem _ hg, hc⟩
  | opt k m h ih =>
    cases e
    exact ⟨_, List.mem_cons_self, m⟩
  | star k m h ih =>
    cases e
    exact ⟨_, List.mem_cons_self, m⟩
theorem Lg.app {fs gs : List Fc} {u v : List Nat} (h1 : Lg fs u) (h2 : Lg gs v) : Lg (fs ++ gs) (u ++ v) := by
  induction h1 with
  | nil => exact h2
  | skip h ih => exact .skip ih
  | opt k m h ih => exact .opt k m ih
  | star k m h ih => exact .star k m ih
theorem Lg.split {gs : List Fc} : ∀ {fs : List Fc} {w : List Nat}, Lg (fs ++ gs) w → ∃ u v, w = u ++ v ∧ Lg fs u ∧ Lg gs v := by
  intro fs w h
  generalize e : fs ++ gs = hs at h
  induction h generalizing fs with
  | nil =>
    obtain ⟨rfl, rfl⟩ := List.append_eq_nil_iff.mp e
    exact ⟨[], [], rfl, .nil, .nil⟩
  | @skip f hs w h ih =>
    cases fs with
    | nil =>
      have e' : gs = f :: hs := e
      exact ⟨[], w, rfl, .nil, by rw [e']; exact .skip h⟩
    | cons f' fs =>
      obtain ⟨rfl, e2⟩ := List.cons.inj e
      obtain ⟨u, v, rfl, h1, h2⟩ := ih e2
      exact ⟨u, v, rfl, .skip h1, h2⟩
  | @opt f hs c w k m h ih =>
    cases fs with
    | nil =>
      have e' : gs = f :: hs := e
      exact ⟨[], c :: w, rfl, .nil, by rw [e']; exact .opt k m h⟩
    | cons f' fs =>
      obtain ⟨rfl, e2⟩ := List.cons.inj e
      obtain ⟨u, v, rfl, h1, h2⟩ := ih e2
      exact ⟨c :: u, v, rfl, .opt k m h1, h2⟩
  | @star f hs c w k m h ih =>
    cases fs with
    | nil =>
      have e' : gs = f :: hs := e
      exact ⟨[], c :: w, rfl, .nil, by rw [e']; exact .star k m h⟩
    | cons f' fs =>
      obtain ⟨rfl, e2⟩ := List.cons.inj e
      obtain ⟨u, v, rfl, h1, h2⟩ := ih (fs := f' :: fs) e
      exact ⟨c :: u, v, rfl, .star k m h1, h2⟩
theorem Lg.one_star {f : Fc} (k : f.1 = true) : ∀ {w : List Nat}, Lg [f] w ↔ ∀ c ∈ w, c ∈ ls f := by
  intro w
  constructor
  · intro h
    generalize e : [f] = hs at h
    induction h with
    | nil => intro c hc; cases hc
    | skip h ih =>
      obtain ⟨rfl, rfl⟩ := List.cons.inj e
      cases h
      intro c hc
      cases hc
    | opt k' m h ih =>
      obtain ⟨rfl, rfl⟩ := List.cons.inj e
      rw [k] at k'
      cases k'
    | star k' m h ih =>
      intro c hc
      rcases List.mem_cons.mp hc with q | q
      · obtain ⟨rfl, rfl⟩ := List.cons.inj e
        rw [q]
        exact m
      · exact ih e c q
  · intro h
    induction w with
    | nil => exact Lg.empty _
    | cons c w ih => exact .star k (h c List.mem_cons_self) (ih fun d hd => h d (List.mem_cons_of_mem _ hd))
theorem Lg.one_opt {f : Fc} (k : f.1 = false) {w : List Nat} (h : Lg [f] w) : w = [] ∨ ∃ c ∈ ls f, w = [c] := by
  cases h with
  | skip h =>
    cases h
    exact .inl rfl
  | opt k' m h =>
    cases h
    exact .inr ⟨_, m, rfl⟩
  | star k' m h =>
    rw [k] at k'
    cases k'
/-- a word behind a factor more -/
theorem Lg.snoc {fs : List Fc} {f : Fc} {u : List Nat} : Lg (fs ++ [f]) u ↔ Lg fs u ∨ ∃ u' c, u = u' ++ [c] ∧ c ∈ ls f ∧ (if f.1 = true then Lg (fs ++ [f]) u' else Lg fs u') := by
  constructor
  · intro h
    obtain ⟨a, b, rfl, h1, h2⟩ := h.split
    by_cases k : f.1 = true
    · have q := (Lg.one_star k).mp h2
      rcases List.eq_nil_or_concat b with e | ⟨b', c, e⟩
      · left
        rw [e, List.append_nil]
        exact h1
      · right
        rw [List.concat_eq_append] at e
        refine ⟨a ++ b', c, by rw [e, List.append_assoc], q c (by rw [e]; simp), ?_⟩
        rw [if_pos k]
        exact Lg.app h1 ((Lg.one_star k).mpr fun d hd => q d (by rw [e]; simp [hd]))
    · rcases Lg.one_opt (by simpa using k) h2 with e | ⟨c, hc, e⟩
      · left
        rw [e, List.append_nil]
        exact h1
      · right
        exact ⟨a, c, by rw [e], hc, by rw [if_neg k]; exact h1⟩
  · rintro (h | ⟨u', c, rfl, hc, h⟩)
    · have := Lg.app h (Lg.empty [f])
      rw [List.append_nil] at this
      exact this
    · by_cases k : f.1 = true
      · rw [if_pos k] at h
        obtain ⟨a, b, rfl, h1, h2⟩ := h.split
        rw [List.append_assoc]
        refine Lg.app h1 ((Lg.one_star k).mpr fun d hd => ?_)
        rcases List.mem_append.mp hd with q | q
        · exact (Lg.one_star k).mp h2 d q
        · rw [List.mem_singleton.mp q]
          exact hc
      · rw [if_neg k] at h
        exact Lg.app h (.opt (by simpa using k) hc .nil)
theorem Lg.unf (m : Nat) : ∀ fs : List Fc, (∀ f ∈ fs, f.1 = false → (ls f).length = 1) → Lg fs (DW.unf fs m)
  | [], _ => .nil
  | f :: fs, h => by
    have ih := Lg.unf m fs fun g hg => h g (List.mem_cons_of_mem _ hg)
    have e : DW.unf (f :: fs) m = piece m f ++ DW.unf fs m := rfl
    rw [e]
    refine Lg.app (fs := [f]) ?_ ih
    unfold piece
    by_cases k : f.1 = true
    · rw [if_pos k]
      refine (Lg.one_star k).mpr fun c hc => ?_
      obtain ⟨l, hl, hc⟩ := List.mem_flatten.mp hc
      rw [List.eq_of_mem_replicate hl] at hc
      exact hc
    · rw [if_neg k]
      have k' : f.1 = false := by simpa using k
      have l1 := h f List.mem_cons_self k'
      obtain ⟨c, e⟩ := List.length_eq_one_iff.mp l1
      have e' : tl f.2 = [c] := e
      rw [e']
      exact .opt k' (by show c ∈ tl f.2; rw [e']; simp) .nil
/-! ### inclusion, factor by factor -/
def sw (g f : Fc) : Bool := g.1 && (ls f).all fun c => decide (c ∈ ls g)
def cov (g f : Fc) : Bool := decide (g = f) || sw g f
def inc : List Fc → List Fc → Bool
  | _, [] => true
  | [], _ :: _ => false
  | g :: q, f :: p => if cov g f = true then (if g.1 = true then inc (g :: q) p else inc q p) else inc q (f :: p)
termination_by q p => q.length + p.length
def W1 (fs : List Fc) : Prop := ∀ f ∈ fs, ls f ≠ [] ∧ (f.1 = false → (ls f).length = 1)
theorem cov_sub {g f : Fc} (h : cov g f = true) (k : g.1 = true) : ∀ c ∈ ls f, c ∈ ls g := by
  intro c hc
  unfold cov at h
  rw [Bool.or_eq_true] at h
  rcases h with e | e
  · rw [of_decide_eq_true e]
    exact hc
  · unfold sw at e
    rw [Bool.and_eq_true, List.all_eq_true] at e
    exact of_decide_eq_true (e.2 c hc)
theorem cov_opt {g f : Fc} (h : cov g f = true) (k : g.1 = false) : g = f := by
  unfold cov at h
  rw [Bool.or_eq_true] at h
  rcases h with e | e
  · exact of_decide_eq_true e
  · unfold sw at e
    rw [k] at e
    cases e
theorem inc_sound : ∀ (q p : List Fc), inc q p = true → ∀ w, Lg p w → Lg q w
  | q, [], _, w, h => by
    cases h
    exact Lg.empty q
  | [], f :: p, h, w, _ => by
    unfold inc at h
    cases h
  | g :: q, f :: p, h, w, hw => by
    unfold inc at h
    by_cases c : cov g f = true
    · rw [if_pos c] at h
      by_cases k : g.1 = true
      · rw [if_pos k] at h
        have ih := inc_sound (g :: q) p h
        have sub := cov_sub c k
        generalize e : f :: p = fp at hw
        induction hw with
        | nil => cases e
        | skip h1 _ =>
          cases e
          exact ih _ h1
        | opt _ m h1 _ =>
          cases e
          exact .star k (sub _ m) (ih _ h1)
        | star _ m h1 ih1 =>
          cases e
          exact .star k (sub _ m) (ih1 rfl)
      · rw [if_neg k] at h
        have k' : g.1 = false := by simpa using k
        have ih := inc_sound q p h
        have e := cov_opt c k'
        subst e
        cases hw with
        | skip h1 => exact .skip (ih _ h1)
        | opt k2 m h1 => exact .opt k2 m (ih _ h1)
        | star k2 m h1 =>
          rw [k'] at k2
          cases k2
    · rw [if_neg c] at h
      exact .skip (inc_sound q (f :: p) h w hw)
termination_by q p => q.length + p.length
/-! ### a word that repeats letters in turn -/
def Per (L : List Nat) (o : Nat) (v : List Nat) : Prop := ∀ k : Nat, k < v.length → v[k]? = L[(o + k) % L.length]?
theorem Per.tail {L u v : List Nat} {o : Nat} (h : Per L o (u ++ v)) : Per L (o + u.length) v := fun k hk => by
  have q := h (u.length + k) (by rw [List.length_append]; omega)
  rw [List.getElem?_append_right (by omega), show u.length + k - u.length = k by omega] at q
  rw [q, Nat.add_assoc]
theorem Per.head {L u v : List Nat} {o : Nat} (h : Per L o (u ++ v)) : Per L o u := fun k hk => by
  have q := h k (by rw [List.length_append]; omega)
  rw [List.getElem?_append_left hk] at q
  exact q
theorem Per.all {L v : List Nat} {o : Nat} (h0 : L ≠ []) (h : Per L o v) (hl : L.length ≤ v.length) : ∀ c ∈ L, c ∈ v := by
  intro c hc
  obtain ⟨i, hi, e⟩ := List.mem_iff_getElem.mp hc
  have lp : 0 < L.length := List.length_pos_iff.mpr h0
  have om := Nat.mod_lt o lp
  -- k with (o + k) % |L| = i
  have : ∃ k, k < L.length ∧ (o + k) % L.length = i := by
    by_cases c : o % L.length ≤ i
    · refine ⟨i - o % L.length, by omega, ?_⟩
      rw [Nat.add_mod, Nat.mod_eq_of_lt (show i - o % L.length < L.length by omega)]
      rw [show o % L.length + (i - o % L.length) = i by omega, Nat.mod_eq_of_lt hi]
    · refine ⟨i + L.length - o % L.length, by omega, ?_⟩
      rw [Nat.add_mod, Nat.mod_eq_of_lt (show i + L.length - o % L.length < L.length by omega)]
      rw [show o % L.length + (i + L.length - o % L.length) = i + L.length by omega, Nat.add_mod_right, Nat.mod_eq_of_lt hi]
  obtain ⟨k, hk, ek⟩ := this
  have q := h k (by omega)
  rw [ek, List.getElem?_eq_getElem hi, e] at q
  exact List.mem_of_getElem? q
theorem Per.bound {f : Fc} (h0 : ls f ≠ []) : ∀ (q : List Fc), (∀ g ∈ q, cov g f = false) → ∀ (v : List Nat) (o : Nat), Per (ls f) o v → Lg q v → v.length ≤ q.length * (ls f).length
  | [], _, v, o, _, h => by
    cases h
    exact Nat.zero_le _
  | g :: q, hq, v, o, hp, h => by
    obtain ⟨a, b, rfl, h1, h2⟩ := Lg.split (fs := [g]) h
    have ih := Per.bound h0 q (fun g hg => hq g (List.mem_cons_of_mem _ hg)) b _ hp.tail h2
    have al : a.length ≤ (ls f).length := by
      have lp : 0 < (ls f).length := List.length_pos_iff.mpr h0
      by_cases k : g.1 = true
      · have sub := (Lg.one_star k).mp h1
        by_cases c : (ls f).length ≤ a.length
        · have al := hp.head.all h0 c
          have cv : cov g f = true := by
            unfold cov sw
            rw [Bool.or_eq_true]
            right
            rw [k, Bool.true_and, List.all_eq_true]
            exact fun c hc => decide_eq_true (sub c (al c hc))
          rw [hq g List.mem_cons_self] at cv
          cases cv
        · omega
      · rcases Lg.one_opt (by simpa using k) h1 with e | ⟨c, _, e⟩
        · rw [e]
          exact Nat.zero_le _
        · rw [e]
          exact lp
    rw [List.length_append, List.length_cons, Nat.succ_mul]
    omega
theorem per_rep (L : List Nat) (m : Nat) : Per L 0 (List.replicate m L).flatten := by
  induction m with
  | zero =>
    intro k hk
    exact absurd hk (Nat.not_lt_zero _)
  | succ m ih =>
    intro k hk
    rw [List.replicate_succ, List.flatten_cons]
    by_cases c : k < L.length
    · rw [List.getElem?_append_left c, Nat.zero_add, Nat.mod_eq_of_lt c]
    · rw [List.getElem?_append_right (by omega)]
      have q := ih (k - L.length) (by
        rw [List.replicate_succ, List.flatten_cons, List.length_append] at hk
        omega)
      rw [q, Nat.zero_add, Nat.zero_add]
      congr 1
      rw [← Nat.mod_eq_sub_mod (by omega)]
theorem rep_len (L : List Nat) (m : Nat) : (List.replicate m L).flatten.length = m * L.length := by
  rw [List.length_flatten, List.map_replicate, List.sum_replicate_nat]
/-- skipping factors that do not cover -/
theorem inc_skip {f : Fc} {p : List Fc} : ∀ {a b : List Fc}, (∀ g ∈ a, cov g f = false) → inc (a ++ b) (f :: p) = inc b (f :: p)
  | [], _, _ => rfl
  | g :: a, b, h => by
    rw [List.cons_append]
    rw [show inc (g :: (a ++ b)) (f :: p) = inc (a ++ b) (f :: p) by
      conv => lhs; unfold inc
      rw [if_neg (by rw [h g List.mem_cons_self]; simp)]]
    exact inc_skip fun g hg => h g (List.mem_cons_of_mem _ hg)
theorem first_cov (f : Fc) : ∀ q : List Fc, (∀ g ∈ q, cov g f = false) ∨ ∃ a g b, q = a ++ g :: b ∧ (∀ h ∈ a, cov h f = false) ∧ cov g f = true
  | [] => .inl fun g hg => (nomatch hg)
  | g :: q => by
    by_cases c : cov g f = true
    · exact .inr ⟨[], g, q, rfl, fun h hh => (nomatch hh), c⟩
    · have c' : cov g f = false := by simpa using c
      rcases first_cov f q with h | ⟨a, g', b, rfl, h1, h2⟩
      · left
        intro h' hh
        rcases List.mem_cons.mp hh with e | e
        · rw [e]; exact c'
        · exact h h' e
      · right
        refine ⟨g :: a, g', b, rfl, fun h hh => ?_, h2⟩
        rcases List.mem_cons.mp hh with e | e
        · rw [e]; exact c'
        · exact h1 h e
theorem inc_complete (m : Nat) : ∀ (p q : List Fc), W1 p → W1 q → q.length < m → Lg q (DW.unf p m) → inc q p = true
  | [], q, _, _, _, _ => by
    cases q <;> (unfold inc; rfl)
  | f :: p, q, wp, wq, hm, h => by
    have wp' : W1 p := fun g hg => wp g (List.mem_cons_of_mem _ hg)
    obtain ⟨n0, n1⟩ := wp f List.mem_cons_self
    have e : DW.unf (f :: p) m = piece m f ++ DW.unf p m := rfl
    rw [e] at h
    have lp : 0 < (ls f).length := List.length_pos_iff.mpr n0
    -- the factors that do not cover take at most |q| copies
    have key : ∀ a b, q = a ++ b → (∀ g ∈ a, cov g f = false) → ∃ v, v ≠ [] ∧ (∀ c ∈ v, c ∈ ls f) ∧ Lg b (v ++ DW.unf p m) := by
      intro a b eq ha
      rw [eq] at h
      obtain ⟨u, v, euv, h1, h2⟩ := h.split
      have la : a.length ≤ q.length := by rw [eq, List.length_append]; omega
      by_cases k : f.1 = true
      · have ep : piece m f = (List.replicate m (ls f)).flatten := by unfold piece; rw [if_pos k]
        rw [ep] at euv
        have pr := per_rep (ls f) m
        have lu : u.length < (List.replicate m (ls f)).flatten.length := by
          rw [rep_len]
          apply Decidable.byContradiction
          intro hc
          -- then all copies lie within u
          have hu : ∃ t, u = (List.replicate m (ls f)).flatten ++ t := by
            have q1 : (List.replicate m (ls f)).flatten <+: u ++ v := ⟨_, euv⟩
            have q2 : u <+: u ++ v := List.prefix_append _ _
            have q3 := List.prefix_of_prefix_length_le q1 q2 (by rw [rep_len]; omega)
            obtain ⟨t, et⟩ := q3
            exact ⟨t, et.symm⟩
          obtain ⟨t, rfl⟩ := hu
          have h3 : Lg a (List.replicate m (ls f)).flatten := by
            exact Lg.init h1
          have bd := Per.bound n0 a ha _ 0 pr h3
          rw [rep_len] at bd
          have : a.length * (ls f).length < m * (ls f).length := Nat.mul_lt_mul_of_pos_right (by omega) lp
          omega
        obtain ⟨t, et⟩ : ∃ t, (List.replicate m (ls f)).flatten = u ++ t := by
          have q1 : (List.replicate m (ls f)).flatten <+: u ++ v := ⟨_, euv⟩
          have q2 : u <+: u ++ v := List.prefix_append _ _
          obtain ⟨t, et⟩ := List.prefix_of_prefix_length_le q2 q1 (by omega)
          exact ⟨t, et.symm⟩
        have ev : v = t ++ DW.unf p m := by
          rw [et, List.append_assoc] at euv
          exact (List.append_cancel_left euv).symm
        refine ⟨t, fun z => ?_, fun c hc => ?_, by rw [← ev]; exact h2⟩
        · rw [z, List.append_nil] at et
          rw [et] at lu
          omega
        · have : c ∈ (List.replicate m (ls f)).flatten := by rw [et]; exact List.mem_append_right _ hc
          obtain ⟨l, hl, hc⟩ := List.mem_flatten.mp this
          rw [List.eq_of_mem_replicate hl] at hc
          exact hc
      · have k' : f.1 = false := by simpa using k
        obtain ⟨c, ec⟩ := List.length_eq_one_iff.mp (n1 k')
        have ec' : tl f.2 = [c] := ec
        have ep : piece m f = [c] := by unfold piece; rw [if_neg k, ec']
        rw [ep] at euv
        cases u with
        | nil => exact ⟨[c], by simp, fun d hd => by rw [List.mem_singleton.mp hd]; show c ∈ tl f.2; rw [ec']; simp, by rw [euv]; exact h2⟩
        | cons d u =>
          -- a takes the letter: one of its factors covers f
          exfalso
          have ed : c = d := (List.cons.inj euv).1
          subst ed
          obtain ⟨g, hg, hc⟩ := Lg.has h1
          have hq : g ∈ q := by rw [eq]; exact List.mem_append_left _ hg
          have cv : cov g f = true := by
            unfold cov
            rw [Bool.or_eq_true]
            by_cases kg : g.1 = true
            · right
              unfold sw
              rw [kg, Bool.true_and, List.all_eq_true]
              intro d hd
              have : d ∈ [c] := by rw [← ec']; exact hd
              rw [List.mem_singleton.mp this]
              exact decide_eq_true hc
            · left
              have kg' : g.1 = false := by simpa using kg
              obtain ⟨d, ed⟩ := List.length_eq_one_iff.mp ((wq g hq).2 kg')
              have hc' : c ∈ ls g := hc
              rw [ed] at hc'
              have e2 : tl g.2 = tl f.2 := by
                rw [ec']
                show ls g = [c]
                rw [ed, List.mem_singleton.mp hc']
              obtain ⟨g1, g2⟩ := g
              obtain ⟨f1, f2⟩ := f
              have e3 : g2 = f2 := tl_inj e2
              have e4 : g1 = f1 := kg'.trans k'.symm
              exact decide_eq_true (by rw [e3, e4])
          rw [ha g hg] at cv
          cases cv
    rcases first_cov f q with hn | ⟨a, g, b, eq, ha, hg⟩
    · obtain ⟨v, v0, _, hv⟩ := key q [] (by simp) hn
      cases v with
      | nil => exact absurd rfl v0
      | cons c v => cases hv
    · obtain ⟨v, v0, vs, hv⟩ := key a (g :: b) eq ha
      have ei : inc q (f :: p) = inc (g :: b) (f :: p) := by rw [eq]; exact inc_skip ha
      have lb : (g :: b).length ≤ q.length := by rw [eq, List.length_append]; omega
      rw [ei]
      have wb : W1 (g :: b) := fun x hx => wq x (by rw [eq]; exact List.mem_append_right _ hx)
      by_cases k : g.1 = true
      · have ih := inc_complete m p (g :: b) wp' wb (by omega) hv.drop
        unfold inc
        rw [if_pos hg, if_pos k]
        exact ih
      · have k' : g.1 = false := by simpa using k
        have eg := cov_opt hg k'
        have hb : Lg b (DW.unf p m) := by
          cases v with
          | nil => exact absurd rfl v0
          | cons c v =>
            cases hv with
            | skip h => exact Lg.drop (u := c :: v) h
            | opt _ _ h => exact Lg.drop h
            | star k2 _ _ =>
              rw [k'] at k2
              cases k2
        have ih := inc_complete m p b wp' (fun x hx => wb x (List.mem_cons_of_mem _ hx)) (by rw [List.length_cons] at lb; omega) hb
        unfold inc
        rw [if_pos hg, if_neg k]
        exact ih
end DW
/-! is_ascending, is_alphabet, is_word -/
namespace DW
open PySem PySem.Spec PyProof.Rows L2 TL
set_option autoImplicit false
def ascB (l : List Nat) : Bool := (l.zip (l.drop 1)).all fun p => decide (p.1 < p.2)
def lowB (c : Nat) : Bool := decide (97 ≤ c) && decide (c ≤ 122)
def alphB (l : List Nat) : Bool := decide (1 ≤ l.length) && decide (l.length ≤ 3) && (l.all lowB && ascB l)
theorem lt1 (c d : Nat) : decide ([c] < [d]) = decide (c < d) := by
  rw [decide_eq_decide]
  constructor
  · intro h
    rcases List.cons_lt_cons_iff.mp h with q | q
    · exact q
    · exact absurd q.2 (List.not_lt_nil _)
  · intro h
    exact List.cons_lt_cons_iff.mpr (.inl h)
theorem low_eq (c : Nat) : (if (!decide (([c] : List Nat) < [97])) = true then !decide (([122] : List Nat) < [c]) else false) = lowB c := by
  rw [lt1, lt1]
  unfold lowB
  by_cases h : c < 97
  · rw [decide_eq_true h]
    simp
    omega
  · rw [decide_eq_false h]
    simp
    by_cases g : 122 < c
    · rw [decide_eq_true g, decide_eq_true (by omega : 97 ≤ c), decide_eq_false (by omega : ¬ c ≤ 122)]
      rfl
    · rw [decide_eq_false g, decide_eq_true (by omega : 97 ≤ c), decide_eq_true (by omega : c ≤ 122)]
      rfl
/-- not a text -/
def NoS (K : PySem.W.Frag) (H : Hp) (v : V) : Prop := ∃ t, TyX K H v t ∧ PySem.W.kitOne K t (.type "str") = some false
theorem isi_kit {K : PySem.W.Frag} : PySem.W.kitOne K (.type "str") (.type "str") = some true := kit_ty (by decide +kernel)
def spAsc : Sp := fun vs H Q _ => ∃ (x : Str), vs = [.str x] ∧ (tl x).length ≤ 100000 ∧ ∀ H', Same H H' → Q (.bl (ascB (tl x))) H'
def spAlp (K : PySem.W.Frag) : Sp := fun vs H Q _ => ∃ v : V, vs = [v] ∧ ((∃ x : Str, v = .str x ∧ (tl x).length ≤ 100000 ∧ ∀ H', Same H H' → Q (.bl (alphB (tl x))) H') ∨ (NoS K H v ∧ ∀ H', Same H H' → Q (.bl false) H'))
def spIw (K : PySem.W.Frag) : Sp := fun vs H Q _ => ∃ (z : Str) (v : V), vs = [.str z, v] ∧ ((∃ x : Str, v = .str x ∧ (tl x).length ≤ 100000 ∧ ∀ H', Same H H' → Q (.bl ((tl x).all fun c => decide (c ∈ tl z))) H') ∨ (NoS K H v ∧ ∀ H', Same H H' → Q (.bl false) H'))
theorem cut1 (x : Str) : tl (cutS x (some 1) none) = (tl x).drop 1 := by
  show (x.cps.toList.drop (HT.sIx x.length 0 (some 1))).take (HT.sIx x.length x.length none - HT.sIx x.length 0 (some 1)) = x.cps.toList.drop 1
  rw [show HT.sIx x.length 0 (some 1) = min 1 x.length from HT.sIx_nat x.length 0 1, HT.sIx_none]
  have e : x.length = x.cps.toList.length := (Array.length_toList).symm
  by_cases h : 1 ≤ x.length
  · rw [show min 1 x.length = 1 by omega]
    exact List.take_of_length_le (by rw [List.length_drop]; omega)
  · have h0 : x.cps.toList = [] := List.length_eq_zero_iff.mp (by omega)
    rw [h0]
    simp
section
variable {P : Program} {w : World} {K : PySem.W.Frag} {mg : Str → Option Value} {base : Heap}
theorem scAsc : FnScope ["letters", "one", "other"] ["letters"] (defScope sIsAscending) := ⟨rfl, rfl, rfl, by decide +kernel, rfl, by decide +kernel, by decide +kernel⟩
theorem ok_asc (D : Df K mg "is_ascending" sIsAscending ["letters"]) (ma : mg "all" = none) (mz : mg "zip" = none) : FnOk P w K mg base CX0 1 D.f D.fd ["letters"] spAsc := by
  refine D.F.ok scAsc (fun vs H Q E h => ?_) (fun cdv A outer s H vs Q E hr h => ?_)
  · obtain ⟨x, rfl, _⟩ := h
    rfl
  · obtain ⟨x, rfl, xl, k⟩ := h
    have sz : ∀ y : Str, y.length = (tl y).length := fun y => (Array.length_toList).symm
    refine ⟨_, (pss_one (ps_ret (pe_callB (cr_all rfl) (by rfl) ma (by decide +kernel) (pa_cons (pe_lc (own := [("one", 1), ("other", 2)]) (g := gTup K 2 (gCons (gName 1) (gCons (gName 2) gNil))) rfl scAsc.nd (ZX.pi_zipX (by rfl) mz (pa_cons (pv 0) (pa_cons (pe_slice sl_str (pv 0) (po_some pe_int) po_none) pa_nil))) (blkOk_by (N := ["letters", "one", "other"]) (sc := defScope sIsAscending) (by decide +kernel)) (fun _ _ _ _ _ => pg_tup rfl (pgs_cons (pg_name (i := 1) scAsc.nd rfl (.inl rfl)) (pgs_cons (pg_name (i := 2) scAsc.nd rfl (.inl rfl)) pgs_nil))) (fun _ _ _ _ _ => pts_nil) (fun _ _ _ _ _ => (pe_cmpR op_lt_str (pv 1) (pv 2) (nomark _)))) pa_nil)))), ?_⟩
    refine ⟨.str x, rfl, .str x, rfl, 1, rfl, ?_⟩
    unfold tNoPart
    refine ⟨x, rfl, by rw [sz, sizeLine_eq]; omega, x, _, rfl, fun L hL => ?_⟩
    have e1 := cut1 x
    generalize hy : cutS x (some 1) none = y at e1 ⊢
    have xs : x.cps.size = (tl x).length := (Array.length_toList).symm
    have ys : y.cps.size = (tl y).length := (Array.length_toList).symm
    have sL := same_upd (o := .lst []) hL
    refine lc_it ZX.walk_zipX (fun i H' => ∃ bs : List Bool, H' L = some (.lst (bs.map V.bl)) ∧ bs = (((tl x).zip (tl y)).take i).map (fun p => decide (p.1 < p.2)) ∧ Same H H') ⟨[], upd_same, rfl, sL⟩ (fun _ _ _ _ => trivial) ?_ ?_
    · rintro i v G G' hi ⟨bs, gL, be, sm⟩ ⟨T, c, d, rfl, hT, rfl, hc, hd⟩
      have sT := same_upd (o := .tup [.str ⟨#[c]⟩, .str ⟨#[d]⟩]) hT
      have hc' : (tl x)[i]? = some c := by rw [Array.getElem?_toList]; exact hc
      have hd' : (tl y)[i]? = some d := by rw [Array.getElem?_toList]; exact hd
      have hz : ((tl x).zip (tl y))[i]? = some (c, d) := List.getElem?_zip_eq_some.mpr ⟨hc', hd'⟩
      refine ⟨T, _, rfl, SqT.of upd_same, rfl, _, _, rfl, _, _, rfl, rfl, rfl, yes ?_⟩
      refine ⟨_, rfl, _, rfl, _, _, rfl, rfl, _, sT _ _ gL, ?_, bs ++ [decide (c < d)], ?_, ?_, fun b o e => (upd_ne (ne_of_none e hL)).trans ((sm.trans sT) _ _ e)⟩
      · rw [List.length_map, be, List.length_map, List.length_take, sizeLine_eq]
        omega
      · rw [upd_same, List.map_append]
        show some (HO.lst (_ ++ [V.bl (decide ([c] < [d]))])) = _
        rw [lt1]
        rfl
      · rw [be, List.take_add_one, hz, List.map_append]
        rfl
    · rintro G ⟨bs, gL, be, sm⟩
      refine ⟨L, bs, rfl, SqL.of gL, ?_⟩
      have e2 : bs.all id = ascB (tl x) := by
        rw [be, xs, ys, List.take_of_length_le (by rw [List.length_zip]; omega), List.all_map, e1]
        rfl
      rw [e2]
      exact k _ sm
theorem scAlp : FnScope ["thing", "letter"] ["thing"] (defScope sIsAlphabet) := ⟨rfl, rfl, rfl, by decide +kernel, rfl, by decide +kernel, by decide +kernel⟩
theorem ok_alp (D : Df K mg "is_alphabet" sIsAlphabet ["thing"]) (Da0 : Df K mg "is_ascending" sIsAscending ["letters"]) (ma : mg "all" = none) (mz : mg "zip" = none) (mi : mg "isinstance" = none) (ms : mg "str" = none) (ml : mg "len" = none) (mm0 : ∃ t, mg "MOST_LETTERS" = some (.int 3 t)) : FnOk P w K mg base CX0 2 D.f D.fd ["thing"] (spAlp K) := by
  have Ga : FnOk P w K mg base CX0 1 Da0.f Da0.fd ["letters"] spAsc := ok_asc Da0 ma mz
  have mm : ∃ u, mg "MOST_LETTERS" = some u ∧ RelV (.int 3) u := by
    obtain ⟨t, e⟩ := mm0
    exact ⟨_, e, t, rfl⟩
  refine D.F.ok scAlp (fun vs H Q E h => ?_) (fun cdv A outer s H vs Q E hr h => ?_)
  · obtain ⟨x, rfl, _⟩ := h
    rfl
  · obtain ⟨v, rfl, h⟩ := h
    have sz : ∀ y : Str, y.length = (tl y).length := fun y => (Array.length_toList).symm
    refine ⟨_, (pss_cons (ps_if (pw_or (pt_not (pt_val (pe_callB call_isi (by rfl) mi (by decide +kernel) (pa_cons (pv 0) (pa_cons (pe_bltn (v := V.ty "str") (by rfl) ms (by decide +kernel : bootBuiltins "str" = some (.type "str")) rfl) pa_nil))))) (pw_or1 (pt_not (pt_chain op_le op_le pe_int (pe_callB call_len_str (by rfl) ml PySem.boot_len (pa_cons (pv 0) pa_nil)) (C8.pe_gc (by rfl) mm))))).pt (pss_one (ps_ret pe_bl)) pss_nil) (pss_one (ps_ret (pe_and (pe_callB (cr_all rfl) (by rfl) ma (by decide +kernel) (pa_cons (pe_lc (own := [("letter", 1)]) (g := gName 1) rfl scAlp.nd (pi_str (pv 0)) (blkOk_by (N := ["thing", "letter"]) (sc := defScope sIsAlphabet) (by decide +kernel)) (fun _ _ _ _ _ => pg_name (i := 1) scAlp.nd rfl (Or.inl rfl)) (fun _ _ _ _ _ => pts_nil) (fun _ _ _ _ _ => (pe_chain op_le_str op_le_str pe_str (pv 1) pe_str))) pa_nil)) (pe_one (pe_call Ga hr (by rfl) Da0.g Da0.F.kp Da0.b .nil pass0 (pa_cons (pv 0) pa_nil))))))), ?_⟩
    rcases h with ⟨x, rfl, xl, k⟩ | ⟨⟨t, ty, kt⟩, k⟩
    · have xs : x.cps.size = (tl x).length := (Array.length_toList).symm
      refine ⟨.str x, rfl, _, _, _, _, true, rfl, .ty "str", .base (.str x), isi_kit, true, rfl, ?_⟩
      refine iteF ?_
      refine ⟨.str x, rfl, x, rfl, by rw [sz, sizeLine_eq]; omega, 1, _, rfl, rfl, _, rfl, ?_⟩
      refine ite2 (fun e1 => ?_) (fun e1 => ?_)
      · have e1' : 1 ≤ (tl x).length := by
          have := of_decide_eq_true e1
          rw [sz] at this
          omega
        refine ⟨_, 3, rfl, rfl, _, rfl, ?_⟩
        refine ite2 (fun e2 => ?_) (fun e2 => ?_)
        · have e2' : ¬ (tl x).length ≤ 3 := by
            rw [sz] at e2
            simp at e2
            omega
          have q := k _ (Same.refl H)
          rw [show alphB (tl x) = false by unfold alphB; rw [decide_eq_false e2']; simp] at q
          exact q
        · have e2' : (tl x).length ≤ 3 := by
            rw [sz] at e2
            simp at e2
            omega
          have ea : alphB (tl x) = ((tl x).all lowB && ascB (tl x)) := by
            unfold alphB
            rw [decide_eq_true e1', decide_eq_true e2']
            rfl
          rw [ea] at k
          refine ⟨.str x, rfl, x, rfl, fun L hL => ?_⟩
          have sL := same_upd (o := .lst []) hL
          refine lc_it walk_str (fun i H' => ∃ bs : List Bool, H' L = some (.lst (bs.map V.bl)) ∧ bs = ((tl x).take i).map lowB ∧ Same H H') ⟨[], upd_same, rfl, sL⟩ (fun _ _ _ _ => trivial) ?_ ?_
          · rintro i v G G' hi ⟨bs, gL, be, sm⟩ ⟨rfl, c, hc, rfl⟩
            have hc' : (tl x)[i]? = some c := by rw [Array.getElem?_toList]; exact hc
            refine ⟨rfl, yes ?_⟩
            have fin : ∀ G2 : Hp, G2 = G' → ∃ acc, G2 L = some (.lst acc) ∧ acc.length < sizeLine ∧ ∃ bs : List Bool, (upd G2 L (.lst (acc ++ [V.bl (lowB c)]))) L = some (.lst (bs.map V.bl)) ∧ bs = ((tl x).take (i + 1)).map lowB ∧ Same H (upd G2 L (.lst (acc ++ [V.bl (lowB c)]))) := by
              rintro G2 rfl
              refine ⟨_, gL, ?_, bs ++ [lowB c], ?_, ?_, fun b o e => (upd_ne (ne_of_none e hL)).trans (sm _ _ e)⟩
              · rw [List.length_map, be, List.length_map, List.length_take, sizeLine_eq]
                omega
              · rw [upd_same, List.map_append]
                rfl
              · rw [be, List.take_add_one, hc', List.map_append]
                rfl
            have le := low_eq c
            refine ⟨_, rfl, _, _, rfl, rfl, _, rfl, ?_⟩
            refine ite2 (fun e3 => ?_) (fun e3 => ?_)
            · rw [show (!decide (([c] : List Nat) < [97])) = true from e3, if_pos rfl] at le
              refine ⟨_, _, rfl, rfl, ?_⟩
              have q := fin _ rfl
              rw [← le] at q
              exact q
            · rw [if_neg (show ¬ (!decide (([c] : List Nat) < [97])) = true from e3)] at le
              have q := fin _ rfl
              rw [← le] at q
              exact q
          · rintro G ⟨bs, gL, be, sm⟩
            refine ⟨L, bs, rfl, SqL.of gL, _, rfl, ?_⟩
            have e2 : bs.all id = (tl x).all lowB := by
              rw [be, xs, List.take_length, List.all_map]
              rfl
            rw [e2]
            refine ite2 (fun e3 => ?_) (fun e3 => ?_)
            · refine ⟨.str x, rfl, x, rfl, xl, fun H' s' => ?_⟩
              have q := k _ (sm.trans s')
              rw [e3] at q
              exact q
            · have q := k _ sm
              have e3' : (tl x).all lowB = false := by simpa using e3
              rw [e3'] at q
              exact q
      · have e1' : ¬ 1 ≤ (tl x).length := by
          intro h
          exact e1 (decide_eq_true (by rw [sz]; omega))
        have q := k _ (Same.refl H)
        rw [show alphB (tl x) = false by unfold alphB; rw [decide_eq_false e1']; rfl] at q
        exact ⟨_, rfl, q⟩
    · refine ⟨v, rfl, _, _, _, _, false, rfl, .ty "str", ty, kt, false, rfl, ?_⟩
      exact k _ (Same.refl H)
theorem scIw : FnScope ["alphabet", "thing", "letter"] ["alphabet", "thing"] (defScope sIsWord) := ⟨rfl, rfl, rfl, by decide +kernel, rfl, by decide +kernel, by decide +kernel⟩
theorem ok_iw (D : Df K mg "is_word" sIsWord ["alphabet", "thing"]) (ma : mg "all" = none) (mi : mg "isinstance" = none) (ms : mg "str" = none) : FnOk P w K mg base CX0 1 D.f D.fd ["alphabet", "thing"] (spIw K) := by
  refine D.F.ok scIw (fun vs H Q E h => ?_) (fun cdv A outer s H vs Q E hr h => ?_)
  · obtain ⟨z, x, rfl, _⟩ := h
    rfl
  · obtain ⟨z, v, rfl, h⟩ := h
    refine ⟨_, (pss_one (ps_ret (pe_and (pe_callB call_isi (by rfl) mi (by decide +kernel) (pa_cons (pv 1) (pa_cons (pe_bltn (v := V.ty "str") (by rfl) ms (by decide +kernel : bootBuiltins "str" = some (.type "str")) rfl) pa_nil))) (pe_one (pe_callB (cr_all rfl) (by rfl) ma (by decide +kernel) (pa_cons (pe_lc (own := [("letter", 2)]) (g := gName 2) rfl scIw.nd (pi_str (pv 1)) (blkOk_by (N := ["alphabet", "thing", "letter"]) (sc := defScope sIsWord) (by decide +kernel)) (fun _ _ _ _ _ => pg_name (i := 2) scIw.nd rfl (Or.inl rfl)) (fun _ _ _ _ _ => pts_nil) (fun _ _ _ _ _ => (pe_cmpR op_in_sign (pv 2) (pv 0) rfl))) pa_nil)))))), ?_⟩
    rcases h with ⟨x, rfl, xl, k⟩ | ⟨⟨t, ty, kt⟩, k⟩
    · have xs : x.cps.size = (tl x).length := (Array.length_toList).symm
      refine ⟨.str x, rfl, _, _, _, _, true, rfl, .ty "str", .base (.str x), isi_kit, true, rfl, ?_⟩
      refine iteT ?_
      refine ⟨.str x, rfl, x, rfl, fun L hL => ?_⟩
      have sL := same_upd (o := .lst []) hL
      refine lc_it walk_str (fun i H' => ∃ bs : List Bool, H' L = some (.lst (bs.map V.bl)) ∧ bs = ((tl x).take i).map (fun c => decide (c ∈ tl z)) ∧ Same H H') ⟨[], upd_same, rfl, sL⟩ (fun _ _ _ _ => trivial) ?_ ?_
      · rintro i v G G' hi ⟨bs, gL, be, sm⟩ ⟨rfl, c, hc, rfl⟩
        have hc' : (tl x)[i]? = some c := by rw [Array.getElem?_toList]; exact hc
        refine ⟨rfl, yes ?_⟩
        refine ⟨_, rfl, .str z, rfl, c, z, rfl, rfl, _, gL, ?_, bs ++ [decide (c ∈ tl z)], ?_, ?_, fun b o e => (upd_ne (ne_of_none e hL)).trans (sm _ _ e)⟩
        · rw [List.length_map, be, List.length_map, List.length_take, sizeLine_eq]
          omega
        · rw [upd_same, List.map_append]
          rfl
        · rw [be, List.take_add_one, hc', List.map_append]
          rfl
      · rintro G ⟨bs, gL, be, sm⟩
        refine ⟨L, bs, rfl, SqL.of gL, ?_⟩
        have e2 : bs.all id = (tl x).all fun c => decide (c ∈ tl z) := by
          rw [be, xs, List.take_length, List.all_map]
          rfl
        rw [e2]
        exact k _ sm
    · refine ⟨v, rfl, _, _, _, _, false, rfl, .ty "str", ty, kt, false, rfl, ?_⟩
      exact k _ (Same.refl H)
end
end DW
/-! is_factor and is_product of any object -/
namespace DW
open PySem PySem.Spec PyProof.Rows L2 TL
set_option autoImplicit false
theorem sqT_ty {K : PySem.W.Frag} {H : Hp} {a : Addr} {xs : List V} (h : SqT K H a xs) : TyX K H (.ref a) (.type "tuple") := by
  rcases h with (h | ⟨o, h⟩) | ⟨o, its, n, h, c, _⟩
  · exact .base (.tup h)
  · exact .fTuple h
  · exact .kTuple h c
theorem tup_kit {K : PySem.W.Frag} : PySem.W.kitOne K (.type "tuple") (.type "tuple") = some true := kit_ty (by decide +kernel)
theorem kdo (b : Bool) : decide (V.str (kd b) = V.str "opt") = !b := by
  cases b
  · exact decide_eq_true rfl
  · exact decide_eq_false (by unfold kd; decide +kernel)
theorem kds (b : Bool) : decide (V.str (kd b) = V.str "star") = b := by
  cases b
  · exact decide_eq_false (by unfold kd; decide +kernel)
  · exact decide_eq_true rfl
/-- not a tuple -/
def NoT (K : PySem.W.Frag) (H : Hp) (v : V) : Prop := ∃ t, TyX K H v t ∧ PySem.W.kitOne K t (.type "tuple") = some false
/-- is it a factor: its kind, its letters -/
def facB (z : Str) (k : V) (x : Str) : Bool := (tl x).all (fun c => decide (c ∈ tl z)) && (if decide (k = .str "opt") = true then decide ((tl x).length = 1) else (decide (k = .str "star") && (decide (0 < (tl x).length) && ascB (tl x))))
inductive ObB (K : PySem.W.Frag) (H : Hp) (z : Str) : V → Bool → Prop where
  | no {v : V} (h : NoT K H v) : ObB K H z v false
  | len {a : Addr} {xs : List V} (h : SqT K H a xs) (n : xs.length ≠ 2) : ObB K H z (.ref a) false
  | nos {a : Addr} {k l : V} (h : SqT K H a [k, l]) (n : NoS K H l) : ObB K H z (.ref a) false
  | fac {a : Addr} {k : V} {x : Str} (h : SqT K H a [k, .str x]) (s : ∀ y, scal k (.str y) = true) (xl : (tl x).length ≤ 100000) : ObB K H z (.ref a) (facB z k x)
inductive ObBs (K : PySem.W.Frag) (H : Hp) (z : Str) : List V → List Bool → Prop where
  | nil : ObBs K H z [] []
  | cons {v : V} {b : Bool} {vs : List V} {bs : List Bool} (h : ObB K H z v b) (r : ObBs K H z vs bs) : ObBs K H z (v :: vs) (b :: bs)
theorem ObBs.len {K : PySem.W.Frag} {H : Hp} {z : Str} : ∀ {vs : List V} {bs : List Bool}, ObBs K H z vs bs → vs.length = bs.length
  | _, _, .nil => rfl
  | _, _, .cons _ r => by rw [List.length_cons, List.length_cons, r.len]
theorem ObBs.get {K : PySem.W.Frag} {H : Hp} {z : Str} : ∀ {vs : List V} {bs : List Bool}, ObBs K H z vs bs → ∀ (i : Nat) (v : V), vs[i]? = some v → ∃ b, bs[i]? = some b ∧ ObB K H z v b
  | _, _, .nil, i, v, h => by simp at h
  | _, _, .cons a r, 0, v, h => by
    have e := Option.some.inj h
    subst e
    exact ⟨_, rfl, a⟩
  | _, _, .cons a r, i + 1, v, h => r.get i v h
theorem tyX_same {K : PySem.W.Frag} {H H' : Hp} {v : V} {t : Value} (s : Same H H') (h : TyX K H v t) : TyX K H' v t := by
  cases h with
  | base b =>
    refine .base ?_
    cases b with
    | non => exact .non
    | bl y => exact .bl y
    | int i => exact .int i
    | str y => exact .str y
    | flt y => exact .flt y
    | lst e => exact .lst (s _ _ e)
    | frz e => exact .frz (s _ _ e)
    | tup e => exact .tup (s _ _ e)
    | dK e => exact .dK (s _ _ e)
    | dT e => exact .dT (s _ _ e)
    | ins e a b c d f => exact .ins (s _ _ e) a b c d f
  | byt b => exact .byt b
  | set e => exact .set (s _ _ e)
  | kList e c => exact .kList e c
  | kTuple e c => exact .kTuple e c
  | kDict e c => exact .kDict e c
  | fTuple e => exact .fTuple (s _ _ e)
  | fDict e => exact .fDict (s _ _ e)
theorem ObB.same {K : PySem.W.Frag} {H H' : Hp} {z : Str} {v : V} {b : Bool} (s : Same H H') (h : ObB K H z v b) : ObB K H' z v b := by
  cases h with
  | no h =>
    obtain ⟨t, ty, kt⟩ := h
    exact .no ⟨t, tyX_same s ty, kt⟩
  | len h n => exact .len (same_tup s _ _ h) n
  | nos h n =>
    obtain ⟨t, ty, kt⟩ := n
    exact .nos (same_tup s _ _ h) ⟨t, tyX_same s ty, kt⟩
  | fac h sc xl => exact .fac (same_tup s _ _ h) sc xl
/-- what is told of an object that may be a product -/
inductive PrB (K : PySem.W.Frag) (H : Hp) (z : Str) : V → Bool → Prop where
  | no {v : V} (h : NoT K H v) : PrB K H z v false
  | tup {a : Addr} {xs : List V} {bs : List Bool} (h : SqT K H a xs) (o : ObBs K H z xs bs) (l : bs.length ≤ 100000) : PrB K H z (.ref a) (bs.all id)
def spIf (K : PySem.W.Frag) : Sp := fun vs H Q _ => ∃ (z : Str) (v : V) (b : Bool), vs = [.str z, v] ∧ ObB K H z v b ∧ ∀ H', Same H H' → Q (.bl b) H'
def spIp (K : PySem.W.Frag) : Sp := fun vs H Q _ => ∃ (z : Str) (v : V) (b : Bool), vs = [.str z, v] ∧ PrB K H z v b ∧ ∀ H', Same H H' → Q (.bl b) H'
theorem ascB_of {l : List Nat} (h : l.Pairwise (· < ·)) : ascB l = true := by
  induction l with
  | nil => rfl
  | cons a l ih =>
    cases l with
    | nil => rfl
    | cons b r =>
      obtain ⟨h1, h2⟩ := List.pairwise_cons.mp h
      show (decide (a < b) && ascB (b :: r)) = true
      rw [ih h2, decide_eq_true (h1 b List.mem_cons_self)]
      rfl
/-- a factor that was drawn is one -/
theorem IsF.ob {K : PySem.W.Frag} {H : Hp} {z : Str} {v : V} {f : Fc} (h : IsF K H v f) (fo : FOk z f) (al : Alph z) : ObB K H z v true := by
  obtain ⟨a, rfl, hq⟩ := h
  have fl : (tl f.2).length ≤ 3 := Nat.le_trans fo.2.1.length_le al.2.2.1
  have e : facB z (.str (kd f.1)) f.2 = true := by
    unfold facB
    rw [Bool.and_eq_true]
    refine ⟨List.all_eq_true.mpr fun c hc => decide_eq_true (fo.2.1.subset hc), ?_⟩
    rw [kdo, kds]
    cases q : f.1 with
    | false => exact decide_eq_true (fo.2.2 q)
    | true =>
      rw [ascB_of (al.1.sublist fo.2.1), decide_eq_true (List.length_pos_iff.mpr fo.1)]
      rfl
  have o := ObB.fac (z := z) hq (fun _ => rfl) (Nat.le_trans fl (by decide))
  rw [e] at o
  exact o
theorem IsFs.obs {K : PySem.W.Frag} {H : Hp} {z : Str} (al : Alph z) : ∀ {vs : List V} {fs : List Fc}, IsFs K H vs fs → (∀ f ∈ fs, FOk z f) → ∃ bs, ObBs K H z vs bs ∧ bs.all id = true ∧ bs.length = fs.length
  | _, _, .nil, _ => ⟨[], .nil, rfl, rfl⟩
  | _, _, .cons a r, h => by
    obtain ⟨bs, o, e, l⟩ := r.obs al fun f hf => h f (List.mem_cons_of_mem _ hf)
    refine ⟨true :: bs, .cons (a.ob (h _ List.mem_cons_self) al) o, ?_, by rw [List.length_cons, List.length_cons, l]⟩
    rw [List.all_cons, e]
    rfl
theorem IsP.pr {K : PySem.W.Frag} {H : Hp} {z : Str} {v : V} {fs : List Fc} (al : Alph z) (h : IsP K H v fs) (fo : ∀ f ∈ fs, FOk z f) (l : fs.length ≤ 100000) : PrB K H z v true := by
  obtain ⟨a, xs, rfl, hq, iF⟩ := h
  obtain ⟨bs, o, e, bl⟩ := iF.obs al fo
  rw [← e]
  exact .tup hq o (by rw [bl]; exact l)
section
variable {P : Program} {w : World} {K : PySem.W.Frag} {mg : Str → Option Value} {base : Heap}
structure DfPr (K : PySem.W.Frag) (mg : Str → Option Value) where
  p : Df K mg "is_product" sIsProduct ["alphabet", "thing"]
  f : Df K mg "is_factor" sIsFactor ["alphabet", "thing"]
  w : Df K mg "is_word" sIsWord ["alphabet", "thing"]
  a : Df K mg "is_ascending" sIsAscending ["letters"]
  ma : mg "all" = none
  mz : mg "zip" = none
  mi : mg "isinstance" = none
  ms : mg "str" = none
  mt : mg "tuple" = none
  ml : mg "len" = none
theorem scIf : FnScope ["alphabet", "thing", "kind", "letters"] ["alphabet", "thing"] (defScope sIsFactor) := ⟨rfl, rfl, rfl, by decide +kernel, rfl, by decide +kernel, by decide +kernel⟩
theorem ok_if (D : DfPr K mg) : FnOk P w K mg base CX0 2 D.f.f D.f.fd ["alphabet", "thing"] (spIf K) := by
  have Gw : FnOk P w K mg base CX0 1 D.w.f D.w.fd ["alphabet", "thing"] (spIw K) := ok_iw D.w D.ma D.mi D.ms
  have Ga : FnOk P w K mg base CX0 1 D.a.f D.a.fd ["letters"] spAsc := ok_asc D.a D.ma D.mz
  refine D.f.F.ok scIf (fun vs H Q E h => ?_) (fun cdv A outer s H vs Q E hr h => ?_)
  · obtain ⟨z, v, f, rfl, _⟩ := h
    rfl
  · obtain ⟨z, v, b, rfl, ob, k⟩ := h
    have sz : ∀ y : Str, y.length = (tl y).length := fun y => (Array.length_toList).symm
    have mt := D.mt
    have mi := D.mi
    have ml := D.ml
    refine ⟨_, (pss_cons (ps_if (pw_or (pt_not (pt_val (pe_callB call_isi (by rfl) mi (by decide +kernel) (pa_cons (pv 1) (pa_cons (pe_bltn (v := V.ty "tuple") (by rfl) mt (by decide +kernel : bootBuiltins "tuple" = some (.type "tuple")) rfl) pa_nil))))) (pw_or1 (pt_cmpR op_ne (pe_callB call_len_seq (by rfl) ml PySem.boot_len (pa_cons (pv 1) pa_nil)) pe_int (nomark _)))).pt (pss_one (ps_ret pe_bl)) pss_nil) (pss_cons (ps_asg (pv 1) (pg_tup rfl (pgs_cons (pg_name (i := 2) scIf.nd rfl (.inl rfl)) (pgs_cons (pg_name (i := 3) scIf.nd rfl (.inl rfl)) pgs_nil)))) (pss_cons (ps_if (pt_not (pt_val (pe_call Gw hr (by rfl) D.w.g D.w.F.kp D.w.b .nil pass0 (pa_cons (pv 0) (pa_cons (pv 3) pa_nil))))) (pss_one (ps_ret pe_bl)) pss_nil) (pss_cons (ps_if (pt_cmpR op_eq (pv 2) pe_str (nomark _)) (pss_one (ps_ret (pe_cmpR op_eq (pe_callB call_len_str (by rfl) ml PySem.boot_len (pa_cons (pv 3) pa_nil)) pe_int (nomark _)))) pss_nil) (pss_one (ps_ret (pe_and (pe_cmpR op_eq (pv 2) pe_str (nomark _)) (pe_and (pe_cmpR op_gt (pe_callB call_len_str (by rfl) ml PySem.boot_len (pa_cons (pv 3) pa_nil)) pe_int (nomark _)) (pe_one (pe_call Ga hr (by rfl) D.a.g D.a.F.kp D.a.b .nil pass0 (pa_cons (pv 3) pa_nil))))))))))), ?_⟩
    cases ob with
    | no h =>
      obtain ⟨t, ty, kt⟩ := h
      exact ⟨v, rfl, _, _, _, _, false, rfl, .ty "tuple", ty, kt, false, rfl, iteT (k _ (Same.refl _))⟩
    | @len a xs h n =>
      refine ⟨.ref a, rfl, _, _, _, _, true, rfl, .ty "tuple", sqT_ty h, tup_kit, true, rfl, iteF ?_⟩
      refine ⟨.ref a, rfl, a, _, rfl, .inr h, rfl, _, rfl, ?_⟩
      rw [show (!decide (V.int (xs.length : Int) = V.int 2)) = true by
        rw [decide_eq_false fun e => by
          have := V.int.inj e
          omega]
        rfl]
      exact iteT (k _ (Same.refl _))
    | @nos a kk l h n =>
      refine ⟨.ref a, rfl, _, _, _, _, true, rfl, .ty "tuple", sqT_ty h, tup_kit, true, rfl, iteF ?_⟩
      refine ⟨.ref a, rfl, a, _, rfl, .inr h, rfl, _, rfl, iteF ?_⟩
      refine ⟨.ref a, rfl, a, _, rfl, h, rfl, _, _, rfl, _, _, rfl, rfl, ?_⟩
      refine ⟨.str z, rfl, l, rfl, z, l, rfl, .inr ⟨n, fun H1 s1 => ?_⟩⟩
      exact ⟨_, rfl, iteT (k _ s1)⟩
    | @fac a kk x h sc xl =>
      refine ⟨.ref a, rfl, _, _, _, _, true, rfl, .ty "tuple", sqT_ty h, tup_kit, true, rfl, iteF ?_⟩
      refine ⟨.ref a, rfl, a, _, rfl, .inr h, rfl, _, rfl, iteF ?_⟩
      refine ⟨.ref a, rfl, a, _, rfl, h, rfl, _, _, rfl, _, _, rfl, rfl, ?_⟩
      refine ⟨.str z, rfl, .str x, rfl, z, .str x, rfl, .inl ⟨x, rfl, xl, fun H1 s1 => ?_⟩⟩
      unfold facB at k
      cases q1 : (tl x).all (fun c => decide (c ∈ tl z)) with
      | false =>
        rw [q1] at k
        exact ⟨_, rfl, iteT (k _ s1)⟩
      | true =>
        rw [q1, Bool.true_and] at k
        refine ⟨_, rfl, iteF ?_⟩
        refine ⟨_, rfl, sc _, _, rfl, ?_⟩
        have xsz : x.length ≤ sizeLine := by
          rw [sz, sizeLine_eq]
          omega
        by_cases q2 : decide (kk = V.str "opt") = true
        · rw [if_pos q2] at k
          rw [q2]
          refine iteT ?_
          refine ⟨.str x, rfl, x, rfl, xsz, rfl, ?_⟩
          have e : decide (V.int (x.length : Int) = V.int 1) = decide ((tl x).length = 1) := by
            rw [decide_eq_decide, sz]
            constructor
            · intro e
              have := V.int.inj e
              omega
            · intro e
              rw [e]
              rfl
          rw [e]
          exact k _ s1
        · rw [if_neg q2] at k
          rw [show decide (kk = V.str "opt") = false by simpa using q2]
          refine iteF ?_
          refine ⟨_, rfl, sc _, _, rfl, ?_⟩
          by_cases q3 : decide (kk = V.str "star") = true
          · rw [q3, Bool.true_and] at k
            rw [q3]
            refine iteT ?_
            refine ⟨.str x, rfl, x, rfl, xsz, _, _, rfl, rfl, _, rfl, ?_⟩
            have e : decide ((x.length : Int) > 0) = decide (0 < (tl x).length) := by
              rw [decide_eq_decide, sz]
              omega
            rw [e]
            by_cases q4 : decide (0 < (tl x).length) = true
            · rw [q4, Bool.true_and] at k
              rw [q4]
              refine iteT ?_
              exact ⟨.str x, rfl, x, rfl, xl, fun H2 s2 => k _ (s1.trans s2)⟩
            · rw [show decide (0 < (tl x).length) = false by simpa using q4] at k
              rw [show decide (0 < (tl x).length) = false by simpa using q4]
              exact iteF (k _ s1)
          · rw [show decide (kk = V.str "star") = false by simpa using q3] at k
            rw [show decide (kk = V.str "star") = false by simpa using q3]
            exact iteF (k _ s1)
theorem scIp : FnScope ["alphabet", "thing", "factor"] ["alphabet", "thing"] (defScope sIsProduct) := ⟨rfl, rfl, rfl, by decide +kernel, rfl, by decide +kernel, by decide +kernel⟩
theorem ok_ip (D : DfPr K mg) : FnOk P w K mg base CX0 3 D.p.f D.p.fd ["alphabet", "thing"] (spIp K) := by
  have Gf : FnOk P w K mg base CX0 2 D.f.f D.f.fd ["alphabet", "thing"] (spIf K) := ok_if D
  refine D.p.F.ok scIp (fun vs H Q E h => ?_) (fun cdv A outer s H vs Q E hr h => ?_)
  · obtain ⟨z, v, f, rfl, _⟩ := h
    rfl
  · obtain ⟨z, v, b, rfl, pr, k⟩ := h
    have mt := D.mt
    have mi := D.mi
    have ma := D.ma
    refine ⟨_, (pss_one (ps_ret (pe_and (pe_callB call_isi (by rfl) mi (by decide +kernel) (pa_cons (pv 1) (pa_cons (pe_bltn (v := V.ty "tuple") (by rfl) mt (by decide +kernel : bootBuiltins "tuple" = some (.type "tuple")) rfl) pa_nil))) (pe_one (pe_callB (cr_all rfl) (by rfl) ma (by decide +kernel) (pa_cons (pe_lc (own := [("factor", 2)]) (g := gName 2) rfl scIp.nd (pi_tup (pv 1)) (blkOk_by (N := ["alphabet", "thing", "factor"]) (sc := defScope sIsProduct) (by decide +kernel)) (fun _ _ _ _ _ => pg_name (i := 2) scIp.nd rfl (Or.inl rfl)) (fun _ _ _ _ _ => pts_nil) (fun _ _ _ _ _ => (pe_call Gf hr (by rfl) D.f.g D.f.F.kp D.f.b .nil pass0 (pa_cons (pv 0) (pa_cons (pv 2) pa_nil))))) pa_nil)))))), ?_⟩
    cases pr with
    | no h =>
      obtain ⟨t, ty, kt⟩ := h
      exact ⟨v, rfl, _, _, _, _, false, rfl, .ty "tuple", ty, kt, false, rfl, iteF (k _ (Same.refl _))⟩
    | @tup a xs bs hq o bl =>
      refine ⟨.ref a, rfl, _, _, _, _, true, rfl, .ty "tuple", sqT_ty hq, tup_kit, true, rfl, iteT ?_⟩
      refine ⟨.ref a, rfl, a, rfl, ⟨_, hq⟩, fun L hL => ?_⟩
      have sL := same_upd (o := .lst []) hL
      have xl := o.len
      refine lc_it (walk_tup (xs := xs)) (fun i H' => H' L = some (.lst ((bs.take i).map V.bl)) ∧ Same H H') ⟨upd_same, sL⟩ (fun _ _ _ ⟨_, sm⟩ => same_tup sm _ _ hq) ?_ ?_
      · rintro i v G G' hi ⟨gL, sm⟩ ⟨rfl, hv⟩
        obtain ⟨b, hb, ob⟩ := o.get i v hv
        refine ⟨rfl, yes ?_⟩
        refine ⟨.str z, rfl, v, rfl, z, v, b, rfl, ob.same sm, fun H2 s2 => ?_⟩
        refine ⟨_, s2 _ _ gL, ?_, ?_, fun b o e => (upd_ne (ne_of_none e hL)).trans ((sm.trans s2) _ _ e)⟩
        · rw [List.length_map, List.length_take, sizeLine_eq]
          omega
        · rw [upd_same, List.take_add_one, hb, List.map_append]
          rfl
      · rintro G ⟨gL, sm⟩
        refine ⟨L, _, rfl, SqL.of gL, ?_⟩
        rw [xl, List.take_length]
        exact k _ sm
end
end DW
/-! format_factor, format_product -/
namespace DW
open PySem PySem.Spec PyProof.Rows L2 TL
set_option autoImplicit false
theorem tl_app2 (x y : Str) : tl (x ++ y) = tl x ++ tl y := Array.toList_append
/-! ### written forms -/
def fform (f : Fc) : Str := if f.1 = true then ("{" : Str) ++ f.2 ++ ("}*" : Str) else f.2 ++ ("?" : Str)
def pform (fs : List Fc) : Str := if fs = [] then "-" else Txt.join "" (fs.map fform)
def spFf (K : PySem.W.Frag) : Sp := fun vs H Q _ => ∃ (v : V) (f : Fc), vs = [v] ∧ IsF K H v f ∧ (ls f).length ≤ 1000 ∧ Q (.str (fform f)) H
def spFp (K : PySem.W.Frag) : Sp := fun vs H Q _ => ∃ (v : V) (fs : List Fc), vs = [v] ∧ IsP K H v fs ∧ (∀ f ∈ fs, (ls f).length ≤ 1000) ∧ fs.length ≤ 10000 ∧ ∀ H', Same H H' → Q (.str (pform fs)) H'
theorem fform_len {f : Fc} (h : (ls f).length ≤ 1000) : (fform f).length ≤ 1003 := by
  have e : ∀ y : Str, y.length = (tl y).length := fun y => (Array.length_toList).symm
  have h' : (tl f.2).length ≤ 1000 := h
  unfold fform
  split
  · rw [e, tl_app2, tl_app2, List.length_append, List.length_append]
    have e1 : (tl "{").length = 1 := by decide +kernel
    have e2 : (tl "}*").length = 2 := by decide +kernel
    omega
  · rw [e, tl_app2, List.length_append]
    have e2 : (tl "?").length = 1 := by decide +kernel
    omega
section
variable {P : Program} {w : World} {K : PySem.W.Frag} {mg : Str → Option Value} {base : Heap}
theorem scFf : FnScope ["factor", "kind", "letters"] ["factor"] (defScope sFormatFactor) := ⟨rfl, rfl, rfl, by decide +kernel, rfl, by decide +kernel, by decide +kernel⟩
theorem ok_ff (D : Df K mg "format_factor" sFormatFactor ["factor"]) : FnOk P w K mg base CX0 1 D.f D.fd ["factor"] (spFf K) := by
  refine D.F.ok scFf (fun vs H Q E h => ?_) (fun cdv A outer s H vs Q E hr h => ?_)
  · obtain ⟨v, f, rfl, _⟩ := h
    rfl
  · obtain ⟨v, f, rfl, ⟨a, rfl, ha⟩, fl, k⟩ := h
    have sz : ∀ y : Str, y.length = (tl y).length := fun y => (Array.length_toList).symm
    have fl' : (tl f.2).length ≤ 1000 := fl
    refine ⟨_, (pss_cons (ps_asg (pv 0) (pg_tup rfl (pgs_cons (pg_name (i := 1) scFf.nd rfl (.inl rfl)) (pgs_cons (pg_name (i := 2) scFf.nd rfl (.inl rfl)) pgs_nil)))) (pss_cons (ps_if (pt_cmpR op_eq (pv 1) pe_str (nomark _)) (pss_one (ps_ret (pe_op op_add_str (pv 2) pe_str))) pss_nil) (pss_one (ps_ret (pe_op op_add_str (pe_op op_add_str pe_str (pv 2)) pe_str))))), ?_⟩
    refine ⟨.ref a, rfl, a, _, rfl, ha, rfl, _, _, rfl, _, _, rfl, rfl, ?_⟩
    refine ⟨_, rfl, rfl, _, rfl, ?_⟩
    rw [kd_opt]
    unfold fform at k
    have l1 : ("?" : Str).length = 1 := by decide +kernel
    have l2 : ("{" : Str).length = 1 := by decide +kernel
    have l3 : ("}*" : Str).length = 2 := by decide +kernel
    cases q : f.1 with
    | false =>
      rw [q, if_neg (by simp)] at k
      exact iteT ⟨_, rfl, f.2, "?", rfl, rfl, by rw [l1, sz, sizeLine_eq]; omega, k⟩
    | true =>
      rw [q, if_pos rfl] at k
      refine iteF ⟨_, rfl, "{", f.2, rfl, rfl, by rw [l2, sz, sizeLine_eq]; omega, ("{" : Str) ++ f.2, "}*", rfl, rfl, ?_, k⟩
      rw [l3, sz, tl_app2, List.length_append, sizeLine_eq]
      have : (tl "{").length = 1 := by decide +kernel
      omega
theorem scFp : FnScope ["product", "factor"] ["product"] (defScope sFormatProduct) := ⟨rfl, rfl, rfl, by decide +kernel, rfl, by decide +kernel, by decide +kernel⟩
theorem ok_fp (D : Df K mg "format_product" sFormatProduct ["product"]) (Df0 : Df K mg "format_factor" sFormatFactor ["factor"]) (ml : mg "len" = none) (me0 : ∃ t, mg "EMPTY_FORM" = some (.str "-" t)) : FnOk P w K mg base CX0 2 D.f D.fd ["product"] (spFp K) := by
  have Gf : FnOk P w K mg base CX0 1 Df0.f Df0.fd ["factor"] (spFf K) := ok_ff Df0
  have me : ∃ u, mg "EMPTY_FORM" = some u ∧ RelV (.str "-") u := by
    obtain ⟨t, e⟩ := me0
    exact ⟨_, e, t, rfl⟩
  refine D.F.ok scFp (fun vs H Q E h => ?_) (fun cdv A outer s H vs Q E hr h => ?_)
  · obtain ⟨v, fs, rfl, _⟩ := h
    rfl
  · obtain ⟨v, fs, rfl, ⟨a, xs, rfl, ha, iF⟩, fl, l1, k⟩ := h
    have xl := iF.len
    refine ⟨_, (pss_cons (ps_if (pt_cmpR op_eq (pe_callB call_len_seq (by rfl) ml PySem.boot_len (pa_cons (pv 0) pa_nil)) pe_int (nomark _)) (pss_one (ps_ret (C8.pe_gc (by rfl) me))) pss_nil) (pss_one (ps_ret (pe_join pe_str (pe_lc (own := [("factor", 1)]) (g := gName 1) rfl scFp.nd (pi_tup (pv 0)) (blkOk_by (N := ["product", "factor"]) (sc := defScope sFormatProduct) (by decide +kernel)) (fun _ _ _ _ _ => pg_name (i := 1) scFp.nd rfl (Or.inl rfl)) (fun _ _ _ _ _ => pts_nil) (fun _ _ _ _ _ => (pe_call Gf hr (by rfl) Df0.g Df0.F.kp Df0.b .nil pass0 (pa_cons (pv 1) pa_nil)))))))), ?_⟩
    refine ⟨.ref a, rfl, a, xs, rfl, .inr ha, rfl, _, rfl, ?_⟩
    refine ite2 (fun e => ?_) (fun e => ?_)
    · have e' : fs = [] := by
        have := V.int.inj (of_decide_eq_true e)
        exact List.length_eq_zero_iff.mp (by omega)
      have q := k _ (Same.refl _)
      unfold pform at q
      rw [if_pos e'] at q
      exact q
    · have ne : fs ≠ [] := fun z => e (decide_eq_true (by rw [xl, z]; rfl))
      refine ⟨⟨_, rfl⟩, .ref a, rfl, a, rfl, ⟨_, ha⟩, fun L hL => ?_⟩
      have sL := same_upd (o := .lst []) hL
      refine lc_it (walk_tup (xs := xs)) (fun i H' => H' L = some (.lst (((fs.take i).map fform).map V.str)) ∧ Same H H') ⟨upd_same, sL⟩ (fun _ _ _ ⟨_, sm⟩ => same_tup sm _ _ ha) ?_ ?_
      · rintro i x G G' hi ⟨gL, sm⟩ ⟨rfl, hx⟩
        obtain ⟨f, hf, isf⟩ := iF.get i x hx
        refine ⟨rfl, yes ?_⟩
        refine ⟨x, rfl, x, f, rfl, isf.mono (same_tup sm), fl f (List.mem_of_getElem? hf), ?_⟩
        refine ⟨_, gL, ?_, ?_, fun b o e => (upd_ne (ne_of_none e hL)).trans (sm _ _ e)⟩
        · rw [List.length_map, List.length_map, List.length_take, sizeLine_eq]
          omega
        · rw [upd_same, List.take_add_one, hf, List.map_append, List.map_append]
          rfl
      · rintro G ⟨gL, sm⟩
        rw [xl, List.take_length] at gL
        refine ⟨"", L, fs.map fform, rfl, rfl, .inl (SqL.of gL), ?_, ?_⟩
        · have bound : ∀ gs : List Fc, (∀ f ∈ gs, (ls f).length ≤ 1000) → (((gs.map fform).map (·.length)).sum ≤ 1003 * gs.length) := by
            intro gs
            induction gs with
            | nil => intro _; exact Nat.le_refl _
            | cons g gs ih =>
              intro hg
              have h1 := fform_len (hg g List.mem_cons_self)
              have h2 := ih fun f hf => hg f (List.mem_cons_of_mem _ hf)
              simp only [List.map_cons, List.sum_cons, List.length_cons]
              omega
          have := bound fs fl
          have e0 : ("" : Str).length = 0 := rfl
          rw [e0, Nat.mul_zero]
          omega
        · have q := k _ sm
          unfold pform at q
          rw [if_neg ne] at q
          exact q
/-! ### is_inside -/
end
end DW
/-! written products: the texts that can be read back -/
namespace DW
open PySem PySem.Spec PyProof.Rows L2 TL
set_option autoImplicit false
def wf (f : Fc) : List Nat := if f.1 = true then 123 :: (ls f ++ [125, 42]) else ls f ++ [63]
def GdF (f : Fc) : Prop := ls f ≠ [] ∧ (∀ c ∈ ls f, 97 ≤ c ∧ c ≤ 122) ∧ (ls f).Pairwise (· < ·) ∧ (f.1 = false → (ls f).length = 1)
def FewL (fs : List Fc) : Prop := ∃ z : List Nat, z.Pairwise (· < ·) ∧ z.length ≤ 3 ∧ ∀ c, c ∈ z ↔ ∃ f ∈ fs, c ∈ ls f
def Good (w : List Nat) (fs : List Fc) : Prop := w = (fs.map wf).flatten ∧ fs ≠ [] ∧ (∀ f ∈ fs, GdF f) ∧ FewL fs
/-- the factors read so far; what is good goes on from there -/
structure Dec (w : List Nat) (fs : List Fc) (r : List Nat) : Prop where
  eq : w = (fs.map wf).flatten ++ r
  go : ∀ gs, Good w gs → ∃ hs, gs = fs ++ hs
theorem wf_ne (f : Fc) : wf f ≠ [] := by
  unfold wf
  split <;> simp
theorem wf_star {f : Fc} (h : f.1 = true) : wf f = 123 :: (ls f ++ [125, 42]) := if_pos h
theorem wf_opt {f : Fc} (h : f.1 = false) : wf f = ls f ++ [63] := if_neg (by rw [h]; decide)
theorem Dec.start (w : List Nat) : Dec w [] w := ⟨rfl, fun gs _ => ⟨gs, rfl⟩⟩
theorem Dec.next {w : List Nat} {fs : List Fc} {r : List Nat} (D : Dec w fs r) {gs : List Fc} (G : Good w gs) : ∃ hs, gs = fs ++ hs ∧ r = (hs.map wf).flatten ∧ ∀ f ∈ hs, GdF f := by
  obtain ⟨hs, rfl⟩ := D.go gs G
  refine ⟨hs, rfl, ?_, fun f hf => G.2.2.1 f (List.mem_append_right _ hf)⟩
  have e := D.eq.symm.trans G.1
  rw [List.map_append, List.flatten_append] at e
  exact List.append_cancel_left e
theorem Dec.done {w : List Nat} {fs : List Fc} (D : Dec w fs []) {gs : List Fc} (G : Good w gs) : gs = fs := by
  obtain ⟨hs, rfl, e, _⟩ := D.next G
  cases hs with
  | nil => rw [List.append_nil]
  | cons g hs =>
    rw [List.map_cons, List.flatten_cons] at e
    exact absurd (List.append_eq_nil_iff.mp e.symm).1 (wf_ne g)
theorem Dec.head {w : List Nat} {fs : List Fc} {r : List Nat} (D : Dec w fs r) (ne : r ≠ []) {gs : List Fc} (G : Good w gs) : ∃ g hs r', gs = fs ++ g :: hs ∧ GdF g ∧ r = wf g ++ r' := by
  obtain ⟨hs, rfl, e, ok⟩ := D.next G
  cases hs with
  | nil => exact absurd e ne
  | cons g hs => exact ⟨g, hs, _, rfl, ok g List.mem_cons_self, e⟩
/-- a star at the front: the letters stand before the first closing sign -/
theorem star_front {r r' : List Nat} {g : Fc} (h : GdF g) (k : g.1 = true) (e : r = wf g ++ r') : r[0]? = some 123 ∧ FD.At r [125, 42] (1 + (ls g).length) ∧ (∀ j, j < 1 + (ls g).length → r[j]? ≠ some 125) ∧ r[1 + (ls g).length]? = some 125 := by
  rw [wf_star k] at e
  subst e
  refine ⟨rfl, ?_, fun j hj q => ?_, ?_⟩
  · show ((123 :: (ls g ++ [125, 42]) ++ r').drop (1 + (ls g).length)).take 2 = [125, 42]
    rw [show 123 :: (ls g ++ [125, 42]) ++ r' = (123 :: ls g) ++ ([125, 42] ++ r') by simp, Nat.add_comm, List.drop_append_of_le_length (by simp), List.drop_eq_nil_of_le (by simp)]
    rfl
  · rw [show 123 :: (ls g ++ [125, 42]) ++ r' = (123 :: ls g) ++ ([125, 42] ++ r') by simp, List.getElem?_append_left (by rw [List.length_cons]; omega)] at q
    rcases List.mem_cons.mp (List.mem_of_getElem? q) with q | q
    · cases q
    · have := h.2.1 _ q
      omega
  · rw [show 123 :: (ls g ++ [125, 42]) ++ r' = (123 :: ls g) ++ ([125, 42] ++ r') by simp, List.getElem?_append_right (by rw [List.length_cons]; omega), List.length_cons, show 1 + (ls g).length - ((ls g).length + 1) = 0 by omega]
    rfl
theorem opt_front {r r' : List Nat} {g : Fc} (h : GdF g) (k : g.1 = false) (e : r = wf g ++ r') : ∃ c, ls g = [c] ∧ 97 ≤ c ∧ c ≤ 122 ∧ r = c :: 63 :: r' := by
  rw [wf_opt k] at e
  have l := h.2.2.2 k
  cases q : ls g with
  | nil => rw [q] at l; cases l
  | cons c t =>
    rw [q] at l
    have : t = [] := List.length_eq_zero_iff.mp (Nat.succ.inj l)
    subst this
    have := h.2.1 c (by rw [q]; exact List.mem_cons_self)
    refine ⟨c, rfl, this.1, this.2, ?_⟩
    rw [e, q]
    rfl
theorem fc_ext {f g : Fc} (h : f.1 = g.1) (l : ls f = ls g) : f = g := Prod.ext h (tl_inj l)
/-- one more factor -/
theorem Dec.step {w : List Nat} {fs : List Fc} {r r' : List Nat} (D : Dec w fs r) {f : Fc} (e : r = wf f ++ r') (force : ∀ g r2, GdF g → r = wf g ++ r2 → g = f) : Dec w (fs ++ [f]) r' := by
  refine ⟨?_, fun gs G => ?_⟩
  · rw [List.map_append, List.flatten_append, List.append_assoc, D.eq, e]
    simp
  · obtain ⟨g, hs, r2, rfl, hg, e2⟩ := D.head (by rw [e]; intro q; exact wf_ne f (List.append_eq_nil_iff.mp q).1) G
    rw [force g r2 hg e2]
    exact ⟨hs, by simp⟩
theorem at_getElem {r : List Nat} {e : Nat} (h : FD.At r [125, 42] e) : r[e]? = some 125 ∧ r[e + 1]? = some 42 ∧ r = r.take e ++ [125, 42] ++ r.drop (e + 2) := by
  have h : (r.drop e).take 2 = [125, 42] := h
  have d : r.drop e = [125, 42] ++ r.drop (e + 2) := by
    have := (List.take_append_drop 2 (r.drop e)).symm
    rw [h, List.drop_drop] at this
    exact this
  refine ⟨?_, ?_, ?_⟩
  · have : (r.drop e)[0]? = some 125 := by rw [d]; rfl
    rw [List.getElem?_drop] at this
    exact this
  · have : (r.drop e)[1]? = some 42 := by rw [d]; rfl
    rw [List.getElem?_drop] at this
    exact this
  · rw [List.append_assoc, ← d, List.take_append_drop]
/-- the star that the program reads -/
theorem star_read {r : List Nat} {e : Nat} (h0 : r[0]? = some 123) (h : FD.At r [125, 42] e) (least : ∀ j, j < e → ¬ FD.At r [125, 42] j) {f : Fc} (k : f.1 = true) (l : ls f = (r.take e).drop 1) :
    r = wf f ++ r.drop (e + 2) ∧ ∀ g r2, GdF g → r = wf g ++ r2 → g = f := by
  obtain ⟨h1, h2, h3⟩ := at_getElem h
  cases r with
  | nil => cases h0
  | cons c r =>
    cases h0
    cases e with
    | zero => cases h1
    | succ e =>
      refine ⟨?_, fun g r2 hg eg => ?_⟩
      · rw [wf_star k, l]
        exact h3.trans (by simp)
      · by_cases kg : g.1 = true
        · obtain ⟨_, ha, hb, hc⟩ := star_front hg kg eg
          have : e + 1 = 1 + (ls g).length := by
            rcases Nat.lt_trichotomy (e + 1) (1 + (ls g).length) with q | q | q
            · exact absurd h1 (hb _ q)
            · exact q
            · exact absurd ha (least _ q)
          refine fc_ext (kg.trans k.symm) ?_
          rw [l, this, eg, wf_star kg, show 123 :: (ls g ++ [125, 42]) ++ r2 = (123 :: ls g) ++ ([125, 42] ++ r2) by simp, List.take_append_of_le_length (by simp; omega), List.take_of_length_le (by simp; omega)]
          rfl
        · obtain ⟨c, _, c1, c2, eq⟩ := opt_front hg (by simpa using kg) eg
          have := (List.cons.inj eq).1
          omega
theorem star_none {r : List Nat} (h0 : r[0]? = some 123) (no : ∀ j, ¬ FD.At r [125, 42] j) : ∀ g r2, GdF g → ¬ r = wf g ++ r2 := by
  intro g r2 hg eg
  by_cases kg : g.1 = true
  · exact no _ (star_front hg kg eg).2.1
  · obtain ⟨c, _, c1, c2, eq⟩ := opt_front hg (by simpa using kg) eg
    rw [eq] at h0
    cases h0
    omega
theorem opt_read {c : Nat} {r' : List Nat} (hc : c ≠ 123) {f : Fc} (k : f.1 = false) (l : ls f = [c]) : c :: 63 :: r' = wf f ++ r' ∧ ∀ g r2, GdF g → c :: 63 :: r' = wf g ++ r2 → g = f := by
  refine ⟨by rw [wf_opt k, l]; rfl, fun g r2 hg eg => ?_⟩
  by_cases kg : g.1 = true
  · have := (star_front hg kg eg).1
    cases this
    exact absurd rfl hc
  · have kg : g.1 = false := by simpa using kg
    obtain ⟨d, hd, _, _, eq⟩ := opt_front hg kg eg
    refine fc_ext (kg.trans k.symm) ?_
    rw [hd, l, (List.cons.inj eq).1]
theorem opt_none {r : List Nat} (h0 : r[0]? ≠ some 123) (h1 : r[1]? ≠ some 63) : ∀ g r2, GdF g → ¬ r = wf g ++ r2 := by
  intro g r2 hg eg
  by_cases kg : g.1 = true
  · exact h0 (star_front hg kg eg).1
  · obtain ⟨c, _, _, _, eq⟩ := opt_front hg (by simpa using kg) eg
    rw [eq] at h1
    exact h1 rfl
theorem Dec.none {w : List Nat} {fs : List Fc} {r : List Nat} (D : Dec w fs r) (ne : r ≠ []) (no : ∀ g r2, GdF g → ¬ r = wf g ++ r2) : ∀ gs, ¬ Good w gs := fun gs G => by
  obtain ⟨g, hs, r2, _, hg, e⟩ := D.head ne G
  exact no g r2 hg e
end DW
/-! read_factor -/
namespace DW
open PySem PySem.Spec PyProof.Rows L2 TL
set_option autoImplicit false
theorem cutS_nat (x : Str) (i j : Nat) : tl (cutS x (some (i : Int)) (some (j : Int))) = ((tl x).drop i).take (j - i) := by
  show (x.cps.toList.drop (HT.sIx x.length 0 (some (i : Int)))).take (HT.sIx x.length x.length (some (j : Int)) - HT.sIx x.length 0 (some (i : Int))) = _
  rw [HT.sIx_nat, HT.sIx_nat]
  have e : x.length = x.cps.toList.length := (Array.length_toList).symm
  rw [e]
  by_cases h : i ≤ x.cps.toList.length
  · rw [Nat.min_eq_left h]
    by_cases h2 : j ≤ x.cps.toList.length
    · rw [Nat.min_eq_left h2]
    · rw [Nat.min_eq_right (by omega), List.take_of_length_le (by rw [List.length_drop]; omega), List.take_of_length_le (by rw [List.length_drop]; show x.cps.toList.length - i ≤ _; omega)]
  · rw [Nat.min_eq_right (show x.cps.toList.length ≤ i by omega), List.drop_eq_nil_of_le (Nat.le_refl _), List.drop_eq_nil_of_le (show (tl x).length ≤ i from by show x.cps.toList.length ≤ i; omega), List.take_nil, List.take_nil]
def spRfa (K : PySem.W.Frag) (CT : Addr) : Sp := fun vs H Q E => ∃ (x : Str) (st : Nat), vs = [.str x, .int (st : Int)] ∧ st < (tl x).length ∧ (tl x).length ≤ 1000 ∧
  (∀ H' v f n, Same H H' → IsF K H' v f → st + (wf f).length = n → (tl x).drop st = wf f ++ (tl x).drop n → (∀ c ∈ ls f, c ∈ tl x) → (∀ g r2, GdF g → (tl x).drop st = wf g ++ r2 → g = f) → Q v H') ∧
  (∀ H' d, Same H H' → H' d = none → (∀ g r2, GdF g → ¬ (tl x).drop st = wf g ++ r2) → E (.ref CT) (some d) (upd H' d (.xd [(("line" : Str), .int 0)])))
section
variable {P : Program} {w : World} {K : PySem.W.Frag} {mg : Str → Option Value} {base : Heap}
theorem scRfa : FnScope ["text", "start", "end"] ["text", "start"] (defScope sReadFactor) := ⟨rfl, rfl, rfl, by decide +kernel, rfl, by decide +kernel, by decide +kernel⟩
theorem ok_rfa (D : Df K mg "read_factor" sReadFactor ["text", "start"]) (M : EX.DfE P K mg "InvalidText" "line" EX.MsgOk) : FnOk P w K mg base (L2.CX P w) 3 D.f D.fd ["text", "start"] (spRfa K M.C) := by
  refine D.F.ok scRfa (fun vs H Q E h => ?_) (fun cdv A outer s H vs Q E hr h => ?_)
  · obtain ⟨x, st, rfl, _⟩ := h
    rfl
  · obtain ⟨x, st, rfl, h1, h2, kq, ke⟩ := h
    have hr1 : Room (1 + 1) _ := hr
    have sl := sizeLine_eq
    have sx : x.length = (tl x).length := (Array.length_toList).symm
    have hc : (tl x)[st]? = some (tl x)[st] := List.getElem?_eq_getElem h1
    have h0 : ((tl x).drop st)[0]? = some (tl x)[st] := by rw [List.getElem?_drop]; exact hc
    have nl : (0 : Int).natAbs.log2 < 1920 := by decide +kernel
    have fail : ∀ H' : Hp, Same H H' → (∀ g r2, GdF g → ¬ (tl x).drop st = wf g ++ r2) → EX.MsgOk (.int 0) ∧ ∀ d, H' d = none → E (.ref M.C) (some d) (upd H' d (.xd [(("line" : Str), .int 0)])) := fun H' s' no => ⟨.inr (.inl ⟨_, rfl, nl⟩), fun d nd => ke _ d s' nd no⟩
    refine ⟨_, (pss_cons (ps_if (pt_cmpR op_eq (pe_ix ix_str (pv 0) (pv 1) (fun _ _ => rfl)) pe_str (nomark _)) (pss_cons (ps_set (i := 2) scRfa.nd rfl (.inl rfl) (pe_bm PySem.F.plainAttrs_str PySem.F.slot_str_find PySem.F.type_str_find mt_find3 (pv 0) (pa_cons pe_str (pa_cons (pv 1) pa_nil)))) (pss_cons (ps_if (pt_cmpR op_lt (pv 2) pe_int (nomark _)) (pss_one (ps_raise rfl (takes_of rfl rfl rfl rfl) (EX.pmk_err M.T M.iC M.tI (M.F w base) hr1 M.b (by rfl) M.g pe_int))) pss_nil) (pss_one (ps_ret (pe_tup (pa_cons pe_str (pa_cons (pe_slice sl_str (pv 0) (po_some (pe_op op_add (pv 1) pe_int)) (po_some (pv 2))) pa_nil))))))) pss_nil) (pss_cons (ps_if (pt_cmpR op_ne (pe_slice sl_str (pv 0) (po_some (pe_op op_add (pv 1) pe_int)) (po_some (pe_op op_add (pv 1) pe_int))) pe_str (nomark _)) (pss_one (ps_raise rfl (takes_of rfl rfl rfl rfl) (EX.pmk_err M.T M.iC M.tI (M.F w base) hr1 M.b (by rfl) M.g pe_int))) pss_nil) (pss_one (ps_ret (pe_tup (pa_cons pe_str (pa_cons (pe_ix ix_str (pv 0) (pv 1) (fun _ _ => rfl)) pa_nil))))))), ?_⟩
    refine ⟨.str x, rfl, .int (st : Int), rfl, x, _, _, rfl, rfl, by rw [sx]; omega, atI_nat hc, rfl, _, rfl, ite2 (fun e => ?_) (fun e => ?_)⟩
    · have e0 : (tl x)[st] = 123 := by
        have := congrArg tl (V.str.inj (of_decide_eq_true e))
        rw [show tl "{" = [123] by decide +kernel] at this
        exact (List.cons.inj this).1
      rw [e0] at h0
      refine ⟨.str x, rfl, rfl, .int (st : Int), rfl, x, "}*", (st : Int), rfl, rfl, ?_⟩
      have ty : tl ("}*" : Str) = [125, 42] := by decide +kernel
      rcases FD.find3_nat (x := x) (y := ("}*" : Str)) (lo := st) (by decide +kernel) (by rw [sx]; omega) with ⟨k, ek, k1, k2, k3⟩ | ⟨ek, no⟩
      · rw [ek]
        have k2 : FD.At (tl x) [125, 42] k := by rw [← ty]; exact k2
        have k3 : ∀ j, st ≤ j → j < k → ¬ FD.At (tl x) [125, 42] j := by rw [← ty]; exact k3
        have sh : ∀ j, FD.At ((tl x).drop st) [125, 42] j ↔ FD.At (tl x) [125, 42] (st + j) := fun j => by
          show (((tl x).drop st).drop j).take 2 = _ ↔ ((tl x).drop (st + j)).take 2 = _
          rw [List.drop_drop]
        refine ⟨.int (k : Int), rfl, _, _, rfl, rfl, _, rfl, ite2 (fun e => absurd (of_decide_eq_true e) (by omega)) (fun _ => ?_)⟩
        have lf : ls (true, cutS x (some ((st : Int) + 1)) (some (k : Int))) = (((tl x).drop st).take (k - st)).drop 1 := by
          show tl (cutS x (some ((st : Int) + 1)) (some (k : Int))) = _
          rw [show (st : Int) + 1 = ((st + 1 : Nat) : Int) by omega, cutS_nat, List.drop_take, List.drop_drop]
          congr 1
        obtain ⟨r1, r2⟩ := star_read h0 ((sh (k - st)).mpr (by rw [show st + (k - st) = k by omega]; exact k2)) (fun j hj => fun q => k3 (st + j) (by omega) (by omega) ((sh j).mp q)) (f := (true, cutS x (some ((st : Int) + 1)) (some (k : Int)))) rfl lf
        refine ⟨.str x, rfl, .int (st : Int), rfl, _, _, rfl, rfl, _, rfl, .int (k : Int), rfl, _, rfl, x, rfl, by rw [sx]; omega, by show 2 ≤ sizeLine; decide, fun p hp => ?_⟩
        have kl : k < (tl x).length := (List.getElem?_eq_some_iff.mp (at_getElem k2).1).1
        refine kq _ _ (true, cutS x (some ((st : Int) + 1)) (some (k : Int))) (k + 2) (same_upd hp) ⟨p, rfl, SqT.of upd_same⟩ ?_ ?_ (fun c hc => ?_) r2
        · rw [wf_star rfl, List.length_cons, List.length_append, lf, List.length_drop, List.length_take, List.length_drop]
          show st + (min (k - st) ((tl x).length - st) - 1 + 2 + 1) = k + 2
          have : st < k := by
            rcases Nat.lt_or_ge st k with q | q
            · exact q
            · have : k = st := by omega
              subst this
              have := (at_getElem k2).1
              rw [hc, e0] at this
              cases this
          omega
        · rw [List.drop_drop, show st + (k - st + 2) = k + 2 by omega] at r1
          exact r1
        · rw [lf] at hc
          exact List.mem_of_mem_drop (List.mem_of_mem_take (List.mem_of_mem_drop hc))
      · rw [ek]
        have no : ∀ j, st ≤ j → ¬ FD.At (tl x) [125, 42] j := by rw [← ty]; exact no
        refine ⟨.int (-1), rfl, _, _, rfl, rfl, _, rfl, ite2 (fun _ => ?_) (fun e => absurd (decide_eq_true (by decide)) e)⟩
        refine fail _ (Same.refl _) (star_none h0 fun j q => no (st + j) (by omega) ?_)
        show ((tl x).drop (st + j)).take 2 = _
        rw [← List.drop_drop]
        exact q
    · have e0 : (tl x)[st] ≠ 123 := fun q => e (decide_eq_true (by rw [q]; rfl))
      have ce : tl (cutS x (some ((st : Int) + 1)) (some ((st : Int) + 2))) = ((tl x).drop (st + 1)).take 1 := by
        rw [show (st : Int) + 1 = ((st + 1 : Nat) : Int) by omega, show (st : Int) + 2 = ((st + 2 : Nat) : Int) by omega, cutS_nat]
        congr 1
        omega
      have q1 : ((tl x).drop (st + 1)).take 1 = [63] ↔ ((tl x).drop st)[1]? = some 63 := by
        rw [List.getElem?_drop]
        have : (tl x)[st + 1]? = ((tl x).drop (st + 1))[0]? := by rw [List.getElem?_drop]
        rw [this]
        cases (tl x).drop (st + 1) with
        | nil => simp
        | cons a r => simp
      have tq : tl "?" = [63] := by decide +kernel
      refine ⟨.str x, rfl, .int (st : Int), rfl, _, _, rfl, rfl, _, rfl, .int (st : Int), rfl, _, _, rfl, rfl, _, rfl, x, rfl, by rw [sx]; omega, rfl, _, rfl, ite2 (fun e2 => ?_) (fun e2 => ?_)⟩
      · refine fail _ (Same.refl _) (opt_none (by rw [h0]; intro q; exact e0 (Option.some.inj q)) fun q => ?_)
        have : cutS x (some ((st : Int) + 1)) (some ((st : Int) + 2)) = "?" := tl_inj (by rw [ce, tq]; exact q1.mpr q)
        rw [this] at e2
        exact absurd e2 (by decide)
      · have eq : cutS x (some ((st : Int) + 1)) (some ((st : Int) + 2)) = "?" := by
          refine Classical.byContradiction fun ne => e2 ?_
          rw [decide_eq_false (fun h => ne (V.str.inj h))]
          rfl
        have h63 := q1.mp (by rw [← ce, eq, tq])
        have dr : (tl x).drop st = (tl x)[st] :: 63 :: (tl x).drop (st + 2) := by
          rw [List.getElem?_drop] at h63
          obtain ⟨l2, e63⟩ := List.getElem?_eq_some_iff.mp h63
          rw [List.drop_eq_getElem_cons h1, List.drop_eq_getElem_cons l2, e63]
        obtain ⟨r1, r2⟩ := opt_read (r' := (tl x).drop (st + 2)) e0 (f := (false, ⟨#[(tl x)[st]]⟩)) rfl rfl
        refine ⟨.str x, rfl, .int (st : Int), rfl, x, _, _, rfl, rfl, by rw [sx]; omega, atI_nat hc, by show 2 ≤ sizeLine; decide, fun p hp => ?_⟩
        refine kq _ _ (false, ⟨#[(tl x)[st]]⟩) (st + 2) (same_upd hp) ⟨p, rfl, SqT.of upd_same⟩ rfl (dr.trans r1) (fun c hc2 => ?_) (fun g r2' hg eg => r2 g r2' hg (dr.symm.trans eg))
        rw [List.mem_singleton.mp hc2]
        exact List.mem_of_getElem? hc
end
end DW
/-! read_factors -/
namespace DW
open PySem PySem.Spec PyProof.Rows L2 TL
set_option autoImplicit false
theorem ps_nox6 {X : Cx} {st : Stmt} {t : TS} (h : PS X.nox st t) : PS X st t := ⟨fun pins s σ H D I hw =>
  wpAny_mono (h.run pins s σ H D (I.wish _) hw) (fun _ _ q => q.unwish) fun _ _ z => False.elim z⟩
theorem fform_wf (f : Fc) : tl (fform f) = wf f := by
  have e1 : tl "{" = [123] := by decide +kernel
  have e2 : tl "}*" = [125, 42] := by decide +kernel
  have e3 : tl "?" = [63] := by decide +kernel
  unfold fform wf
  split
  · rw [tl_app2, tl_app2, e1, e2]
    rfl
  · rw [tl_app2, e3]
def spRfs (K : PySem.W.Frag) (CT : Addr) : Sp := fun vs H Q E => ∃ (x : Str), vs = [.str x] ∧ (tl x).length ≤ 1000 ∧
  (∀ H' v fs, Same H H' → IsP K H' v fs → Dec (tl x) fs [] → (∀ f ∈ fs, (∀ c ∈ ls f, c ∈ tl x) ∧ (ls f).length ≤ 1000) → fs.length ≤ 1000 → Q v H') ∧
  (∀ H' d, Same H H' → H' d = none → (∀ gs, ¬ Good (tl x) gs) → E (.ref CT) (some d) (upd H' d (.xd [(("line" : Str), .int 0)])))
theorem upd_lst {K : PySem.W.Frag} {H : Hp} {L : Addr} {us : List V} {o : HO} (hp : H L = some (.lst us)) (b : Addr) (xs : List V) (h : SqT K H b xs) : SqT K (upd H L o) b xs := by
  rcases h with (h | ⟨v, h⟩) | h
  · exact .inl (.inl ((upd_ne (ne_of h hp (by intro z; cases z))).trans h))
  · exact .inl (.inr ⟨v, (upd_ne (ne_of h hp (by intro z; cases z))).trans h⟩)
  · exact .inr h
section
variable {P : Program} {w : World} {K : PySem.W.Frag} {mg : Str → Option Value} {base : Heap}
theorem scRfs : FnScope ["text", "factors", "start", "factor"] ["text"] (defScope sReadFactors) := ⟨rfl, rfl, rfl, by decide +kernel, rfl, by decide +kernel, by decide +kernel⟩
theorem ok_rfs (D : Df K mg "read_factors" sReadFactors ["text"]) (Dr : Df K mg "read_factor" sReadFactor ["text", "start"]) (Df : Df K mg "format_factor" sFormatFactor ["factor"]) (M : EX.DfE P K mg "InvalidText" "line" EX.MsgOk) (B : Bl mg) (mt : mg "tuple" = none) : FnOk P w K mg base (L2.CX P w) 4 D.f D.fd ["text"] (spRfs K M.C) := by
  have Gr : FnOk P w K mg base (L2.CX P w) 3 Dr.f Dr.fd ["text", "start"] (spRfa K M.C) := ok_rfa Dr M
  have Gf : FnOk P w K mg base CX0 1 Df.f Df.fd ["factor"] (spFf K) := ok_ff Df
  refine D.F.ok scRfs (fun vs H Q E h => ?_) (fun cdv A outer s H vs Q E hr h => ?_)
  · obtain ⟨x, rfl, _⟩ := h
    rfl
  · obtain ⟨x, rfl, h2, kq, ke⟩ := h
    have hr1 : Room 1 _ := hr.mono (by decide)
    have hr3 : Room 3 _ := hr
    have sl := sizeLine_eq
    have sx : x.length = (tl x).length := (Array.length_toList).symm
    refine ⟨_, (pss_cons (ps_nox6 (ps_set (i := 1) scRfs.nd rfl (.inl rfl) (pe_lst pa_nil))) (pss_cons (ps_nox6 (ps_set (i := 2) scRfs.nd rfl (.inl rfl) pe_int)) (pss_cons (ps_while (passes_of rfl) (pt_cmpR op_lt (pv 2) (pe_callB call_len_str (by rfl) B.len PySem.boot_len (pa_cons (pv 0) pa_nil)) (nomark _)) (pss_cons (ps_set (i := 3) scRfs.nd rfl (.inl rfl) (pe_call Gr hr3 (by rfl) Dr.g Dr.F.kp Dr.b .nil (passes_call (takes_of rfl rfl rfl rfl) (fun _ _ _ _ h => h)) (pa_cons (pv 0) (pa_cons (pv 2) pa_nil)))) (pss_cons (ps_nox6 (ps_expr (pe_bm PySem.F.plainAttrs_list PySem.F.slot_list_append PySem.F.type_list_append mt_append (pv 1) (pa_cons (pv 3) pa_nil)))) (pss_one (ps_nox6 (ps_aug (i := 2) scRfs.nd rfl (.inl rfl) (pe_callB call_len_str (by rfl) B.len PySem.boot_len (pa_cons (pe_call Gf hr1 (by rfl) Df.g Df.F.kp Df.b .nil pass0 (pa_cons (pv 3) pa_nil)) pa_nil)) ip_add)))))) (pss_one (ps_nox6 (ps_ret (pe_callTy call_tuple_of (by rfl) mt (by decide +kernel) (pa_cons (pv 1) pa_nil)))))))), ?_⟩
    refine ⟨Nat.zero_le _, fun L hL => ?_⟩
    have s0 := same_upd (o := .lst []) hL
    refine ⟨fun m σ H' => ∃ (st : Nat) (vs : List V) (fs : List Fc) (y : Option V), σ = [some (.str x), some (.ref L), some (.int (st : Int)), y] ∧ H' L = some (.lst vs) ∧ IsFs K H' vs fs ∧ Dec (tl x) fs ((tl x).drop st) ∧ st ≤ (tl x).length ∧ fs.length ≤ st ∧ (∀ f ∈ fs, (∀ c ∈ ls f, c ∈ tl x) ∧ (ls f).length ≤ 1000) ∧ Same H H' ∧ m = 1000 - st, ⟨_, 0, [], [], _, rfl, upd_same, .nil, Dec.start _, Nat.zero_le _, Nat.le_refl _, fun f hf => (nomatch hf), s0, rfl⟩, ?_⟩
    rintro m σ H1 ⟨st, vs, fs, y, rfl, gL, iF, De, stl, fsl, lf, sm, rfl⟩
    have vl := iF.len
    refine ⟨_, rfl, V.str x, rfl, x, rfl, by rw [sx]; omega, _, _, rfl, rfl, _, rfl, ite2 (fun e => ?_) (fun e => ?_)⟩
    · have lt : st < (tl x).length := by
        have := of_decide_eq_true e
        omega
      refine ⟨fun σ H' => ∃ (n : Nat) (vs : List V) (fs : List Fc) (y : Option V), st < n ∧ σ = [some (.str x), some (.ref L), some (.int (n : Int)), y] ∧ H' L = some (.lst vs) ∧ IsFs K H' vs fs ∧ Dec (tl x) fs ((tl x).drop n) ∧ n ≤ (tl x).length ∧ fs.length ≤ n ∧ (∀ f ∈ fs, (∀ c ∈ ls f, c ∈ tl x) ∧ (ls f).length ≤ 1000) ∧ Same H H', ?_, ?_⟩
      · rintro σ' H' ⟨n, vs, fs, y, e0, e1, e2, e3, e4, e5, e6, e7, e8⟩
        exact ⟨1000 - n, by omega, n, vs, fs, y, e1, e2, e3, e4, e5, e6, e7, e8, rfl⟩
      refine ⟨.str x, rfl, .int (st : Int), rfl, x, st, rfl, lt, h2, fun H2 v f n s2 isf en er cs force => ?_, fun H2 d s2 nd no => ?_⟩
      · have wl : 1 ≤ (wf f).length := List.length_pos_iff.mpr (wf_ne f)
        have nl : n ≤ (tl x).length := by
          have := congrArg List.length er
          rw [List.length_append, List.length_drop, List.length_drop] at this
          omega
        have lsl : (ls f).length ≤ 1000 := by
          have : (ls f).length ≤ (wf f).length := by
            unfold wf
            split <;> simp <;> omega
          omega
        refine ⟨_, rfl, .inl ⟨rfl, _, SqL.of (s2 _ _ gL)⟩, v, rfl, L, vs, v, rfl, rfl, s2 _ _ gL, by omega, ?_⟩
        have isf2 : IsF K (upd H2 L (.lst (vs ++ [v]))) v f := isf.mono fun b xs h => upd_lst (s2 _ _ gL) b xs h
        have iF2 : IsFs K (upd H2 L (.lst (vs ++ [v]))) vs fs := (iF.mono (same_tup s2)).mono fun b xs h => upd_lst (s2 _ _ gL) b xs h
        have fl : (fform f).length = (wf f).length := by
          rw [← fform_wf]
          exact (Array.length_toList).symm
        have fll := fform_len lsl
        have en2 : (n : Int) = (st : Int) + (((fform f).length : Nat) : Int) := by omega
        refine ⟨_, rfl, v, rfl, v, f, rfl, isf2, lsl, fform f, rfl, by omega, _, _, rfl, rfl, n, vs ++ [v], fs ++ [f], some v, by omega, by rw [en2]; rfl, upd_same, iF2.snoc isf2, De.step er force, nl, ?_, fun g hg => ?_, fun b o e => (upd_ne (ne_of_none e hL)).trans ((sm.trans s2) _ _ e)⟩
        · rw [List.length_append]
          show fs.length + 1 ≤ n
          omega
        · rcases List.mem_append.mp hg with q | q
          · exact lf g q
          · rw [List.mem_singleton.mp q]
            exact ⟨cs, lsl⟩
      · exact ke _ d (sm.trans s2) nd (De.none (by intro q; have := List.drop_eq_nil_iff.mp q; omega) no)
    · have st2 : st = (tl x).length := by
        have : ¬ ((st : Int) < ((x.length : Nat) : Int)) := fun h => e (decide_eq_true h)
        omega
      rw [st2, List.drop_eq_nil_of_le (Nat.le_refl _)] at De
      refine ⟨.ref L, rfl, L, vs, rfl, .inl ⟨SqL.of gL, fun p hp => ?_⟩⟩
      exact kq _ (.ref p) fs (sm.trans (same_upd hp)) ⟨p, vs, rfl, SqT.of upd_same, iF.mono (same_tup (same_upd hp))⟩ De lf (by omega)
end
end DW
/-! letters of texts; equal products -/
namespace DW
open PySem PySem.Spec PyProof.Rows L2 TL
set_option autoImplicit false
def LtOf (fs : List Fc) (r : Str) : Prop := (tl r).Pairwise (· < ·) ∧ ∀ c, c ∈ tl r ↔ ∃ f ∈ fs, c ∈ ls f
theorem nodup_len {α : Type} [DecidableEq α] : ∀ (l m : List α), l.Nodup → (∀ x ∈ l, x ∈ m) → l.length ≤ m.length
  | [], _, _, _ => Nat.zero_le _
  | a :: l, m, nd, h => by
    obtain ⟨na, nd⟩ := List.nodup_cons.mp nd
    have hm := h a List.mem_cons_self
    have q := nodup_len l (m.erase a) nd fun x hx => (List.mem_erase_of_ne (by intro e; subst e; exact na hx)).mpr (h x (List.mem_cons_of_mem _ hx))
    rw [List.length_erase_of_mem hm] at q
    have := List.length_pos_of_mem hm
    rw [List.length_cons]
    omega
theorem signs_mem {x k : Str} : k ∈ TX.signs x ↔ ∃ c ∈ tl x, k = one c := by
  unfold TX.signs
  rw [List.mem_map]
  exact ⟨fun ⟨c, h, e⟩ => ⟨c, h, e.symm⟩, fun ⟨c, h, e⟩ => ⟨c, h, e.symm⟩⟩
/-- sorted(set(x)) joined -/
theorem set_lets {x : Str} {ls ys : List Str} (nd : ls.Nodup) (mem : ∀ k, k ∈ ls ↔ k ∈ TX.signs x) (pm : ys.Perm ls) (so : sortedS ys = true) :
    (tl (Txt.join "" ys)).Pairwise (· < ·) ∧ (∀ c, c ∈ tl (Txt.join "" ys) ↔ c ∈ tl x) ∧ ∀ y ∈ ys, ∃ c, y = one c := by
  have my : ∀ k, k ∈ ys ↔ k ∈ TX.signs x := fun k => (pm.mem_iff).trans (mem k)
  have h1 : ∀ y ∈ ys, ∃ c, y = one c := fun y hy => by
    obtain ⟨c, _, e⟩ := signs_mem.mp ((my y).mp hy)
    exact ⟨c, e⟩
  obtain ⟨cs, rfl, pw⟩ := sorted_ones ys h1 (pm.nodup_iff.mpr nd) so
  have ej : tl (Txt.join "" (cs.map one)) = cs := by rw [tl_cat, flat_ones]
  refine ⟨by rw [ej]; exact pw, fun c => ?_, h1⟩
  rw [ej]
  constructor
  · intro h
    obtain ⟨d, hd, e⟩ := signs_mem.mp ((my (one c)).mp (List.mem_map.mpr ⟨c, h, rfl⟩))
    have e' : tl (one c) = tl (one d) := congrArg tl e
    rw [tl_one, tl_one] at e'
    rw [(List.cons.inj e').1]
    exact hd
  · intro h
    obtain ⟨d, hd, e⟩ := List.mem_map.mp ((my (one c)).mpr (signs_mem.mpr ⟨c, h, rfl⟩))
    have e' : tl (one d) = tl (one c) := congrArg tl e
    rw [tl_one, tl_one] at e'
    rw [← (List.cons.inj e').1]
    exact hd
end DW
/-! letters_of a tuple; parse_product -/
namespace DW
open PySem PySem.Spec PyProof.Rows L2 TL
set_option autoImplicit false
def spLofT (K : PySem.W.Frag) : Sp := fun vs H Q _ => ∃ (a : Addr) (x : Str) (xs : List V) (fs : List Fc), vs = [.ref a] ∧ SqT K H a xs ∧ IsFs K H xs fs ∧ (∀ f ∈ fs, ∀ c ∈ ls f, c ∈ tl x) ∧ (tl x).length ≤ 60 ∧ fs.length ≤ 60 ∧ ((fs.map ls).flatten).length ≤ 60 ∧
  ∀ H' y, Same H H' → LtOf fs y → Q (.str y) H'
section
variable {P : Program} {w : World} {K : PySem.W.Frag} {mg : Str → Option Value} {base : Heap}
theorem scLofT : FnScope ["factors", "kind", "letters"] ["factors"] (defScope sLettersOf) := ⟨rfl, rfl, rfl, by decide +kernel, rfl, by decide +kernel, by decide +kernel⟩
theorem ok_lofT (D : Df K mg "letters_of" sLettersOf ["factors"]) (ms : mg "sorted" = none) (mt : mg "set" = none) : FnOk P w K mg base CX0 1 D.f D.fd ["factors"] (spLofT K) := by
  refine D.F.ok scLofT (fun vs H Q E h => ?_) (fun cdv A outer s H vs Q E hr h => ?_)
  · obtain ⟨a, z, xs, fs, rfl, _⟩ := h
    rfl
  · obtain ⟨a, x, xs, fs, rfl, ha, iF, sub, x60, f60, big60, k⟩ := h
    have xl := iF.len
    have sl := sizeLine_eq
    have sz : ∀ y : Str, y.length = (tl y).length := fun y => (Array.length_toList).symm
    refine ⟨_, (pss_one (ps_ret (pe_join pe_str (pe_callB (TX.cr_sortTx rfl) (by rfl) ms (by decide +kernel) (pa_cons (pe_callTy (TX.cr_setT rfl) (by rfl) mt (by decide +kernel) (pa_cons (pe_join pe_str (pe_lc (own := [("kind", 1), ("letters", 2)]) (g := gTup K 2 (gCons (gName 1) (gCons (gName 2) gNil))) rfl scLofT.nd (pi_tup (pv 0)) (blkOk_by (N := ["factors", "kind", "letters"]) (sc := defScope sLettersOf) (by decide +kernel)) (fun _ _ _ _ _ => (pg_tup rfl (pgs_cons (pg_name (i := 1) scLofT.nd rfl (.inl rfl)) (pgs_cons (pg_name (i := 2) scLofT.nd rfl (.inl rfl)) pgs_nil)))) (fun _ _ _ _ _ => pts_nil) (fun _ _ _ _ _ => (pv 2)))) pa_nil)) pa_nil))))), ?_⟩
    refine ⟨⟨_, rfl⟩, ⟨_, rfl⟩, .ref a, rfl, a, rfl, ⟨_, ha⟩, fun L hL => ?_⟩
    refine lc_it (walk_tup (xs := xs)) (fun i H' => H' L = some (.lst ((fs.take i).map fun f => V.str f.2)) ∧ Same H H') ⟨upd_same, same_upd hL⟩ (fun _ _ _ ⟨_, sm⟩ => same_tup sm _ _ ha) ?_ ?_
    · rintro i y G G' hi ⟨gL, sm⟩ ⟨rfl, hx⟩
      obtain ⟨f, hf, b, rfl, isf⟩ := iF.get i y hx
      refine ⟨b, _, rfl, same_tup sm _ _ isf, rfl, _, _, rfl, _, _, rfl, rfl, rfl, yes ⟨_, rfl, _, gL, ?_, ?_, fun b o e => (upd_ne (ne_of_none e hL)).trans (sm _ _ e)⟩⟩
      · rw [List.length_map, List.length_take]
        omega
      · rw [upd_same, List.take_add_one, hf, List.map_append]
        rfl
    · rintro G ⟨gL, sm⟩
      rw [xl, List.take_length] at gL
      have e1 : (fs.map fun f => V.str f.2) = (fs.map fun f => f.2).map V.str := by rw [List.map_map]; rfl
      rw [e1] at gL
      have e0 : ("" : Str).length = 0 := rfl
      have tj : tl (Txt.join "" (fs.map fun f => f.2)) = (fs.map ls).flatten := by rw [tl_cat, List.map_map]; rfl
      have bd : ((fs.map fun f => f.2).map (·.length)).sum = ((fs.map ls).flatten).length := by
        rw [List.length_flatten, List.map_map, List.map_map]
        exact congrArg List.sum (List.map_congr_left fun f _ => sz _)
      refine ⟨"", L, fs.map fun f => f.2, rfl, rfl, .inl (SqL.of gL), by rw [e0, Nat.mul_zero, bd]; omega, ?_⟩
      have tlen : (tl (Txt.join "" (fs.map fun f => f.2))).length ≤ 60 := by rw [tj]; exact big60
      generalize Txt.join "" (fs.map fun f => f.2) = big at tj tlen ⊢
      refine ⟨big, rfl, by rw [sz]; unfold scanBound; omega, fun a2 ks ha2 nd mem le => ?_⟩
      have s2 := same_upd (o := TX.SetTx P w a2 ks) ha2
      have kl : ks.length ≤ 60 := by
        have sub : ∀ k ∈ ks, k ∈ (tl x).map one := fun k hk => by
          obtain ⟨c, hc, e⟩ := signs_mem.mp ((mem k).mp hk)
          rw [tj] at hc
          obtain ⟨l, hl, hc⟩ := List.mem_flatten.mp hc
          obtain ⟨f, hf, rfl⟩ := List.mem_map.mp hl
          exact List.mem_map.mpr ⟨c, sub f hf c hc, e.symm⟩
        have := nodup_len ks _ nd sub
        rw [List.length_map] at this
        exact Nat.le_trans this x60
      refine ⟨a2, ks, rfl, upd_same, by omega, fun ys p pm so hp => ?_⟩
      have s3 := same_upd (o := .lst (ys.map V.str)) hp
      obtain ⟨pw, mc, on⟩ := set_lets nd mem pm so
      refine ⟨"", p, ys, rfl, rfl, .inl (SqL.of upd_same), ?_, k _ _ ((sm.trans s2).trans s3) ⟨pw, fun c => ?_⟩⟩
      · rw [sum_ones ys on, pm.length_eq, e0, Nat.mul_zero]
        omega
      · rw [mc, tj, List.mem_flatten]
        constructor
        · rintro ⟨l, hl, hc⟩
          obtain ⟨f, hf, rfl⟩ := List.mem_map.mp hl
          exact ⟨f, hf, hc⟩
        · rintro ⟨f, hf, hc⟩
          exact ⟨_, List.mem_map.mpr ⟨f, hf, rfl⟩, hc⟩
def fg (z : Str) (f : Fc) : Bool := facB z (.str (kd f.1)) f.2
theorem IsFs.obG {H : Hp} {z : Str} : ∀ {vs : List V} {fs : List Fc}, IsFs K H vs fs → (∀ f ∈ fs, (ls f).length ≤ 1000) → ObBs K H z vs (fs.map (fg z))
  | _, _, .nil, _ => .nil
  | _, _, .cons ⟨b, e, hq⟩ r, h => by
    subst e
    exact .cons (.fac hq (fun _ => rfl) (Nat.le_trans (h _ List.mem_cons_self) (by decide))) (r.obG fun f hf => h f (List.mem_cons_of_mem _ hf))
theorem asc_pw1 : ∀ {l : List Nat}, ascB l = true → l.Pairwise (· < ·)
  | [], _ => .nil
  | [a], _ => .cons (fun _ h => (nomatch h)) .nil
  | a :: b :: r, h => by
    have h : (decide (a < b) && ascB (b :: r)) = true := h
    rw [Bool.and_eq_true] at h
    have ih := asc_pw1 h.2
    have ab := of_decide_eq_true h.1
    refine .cons (fun c hc => ?_) ih
    rcases List.mem_cons.mp hc with e | e
    · rw [e]
      exact ab
    · exact Nat.lt_trans ab ((List.pairwise_cons.mp ih).1 c e)
theorem fg_iff {z : Str} {f : Fc} (sub : ∀ c ∈ ls f, c ∈ tl z) : fg z f = true ↔ (f.1 = false → (ls f).length = 1) ∧ (f.1 = true → 0 < (ls f).length ∧ (ls f).Pairwise (· < ·)) := by
  unfold fg facB
  have e1 : (tl f.2).all (fun c => decide (c ∈ tl z)) = true := List.all_eq_true.mpr fun c hc => decide_eq_true (sub c hc)
  rw [e1, Bool.true_and, kdo, kds]
  cases q : f.1 with
  | false =>
    constructor
    · intro h
      exact ⟨fun _ => of_decide_eq_true h, fun h => (nomatch h)⟩
    · intro h
      exact decide_eq_true (h.1 rfl)
  | true =>
    constructor
    · intro h
      have h : (decide (0 < (tl f.2).length) && ascB (tl f.2)) = true := h
      rw [Bool.and_eq_true] at h
      exact ⟨fun h => (nomatch h), fun _ => ⟨of_decide_eq_true h.1, asc_pw1 h.2⟩⟩
    · intro h
      obtain ⟨h1, h2⟩ := h.2 rfl
      show (decide (0 < (tl f.2).length) && ascB (tl f.2)) = true
      rw [decide_eq_true h1, ascB_of h2]
      rfl
theorem alphB_iff {y : Str} (pw : (tl y).Pairwise (· < ·)) : alphB (tl y) = true ↔ Alph y := by
  unfold alphB
  rw [ascB_of pw, Bool.and_true]
  constructor
  · intro h
    rw [Bool.and_eq_true, Bool.and_eq_true] at h
    refine ⟨pw, of_decide_eq_true h.1.1, of_decide_eq_true h.1.2, fun c hc => ?_⟩
    have := List.all_eq_true.mp h.2 c hc
    unfold lowB at this
    rw [Bool.and_eq_true] at this
    exact ⟨of_decide_eq_true this.1, of_decide_eq_true this.2⟩
  · rintro ⟨h1, h2, h3, h4⟩
    rw [decide_eq_true h2, decide_eq_true h3, Bool.true_and, Bool.true_and]
    refine List.all_eq_true.mpr fun c hc => ?_
    unfold lowB
    rw [decide_eq_true (h4 c hc).1, decide_eq_true (h4 c hc).2]
    rfl
theorem good_iff {fs : List Fc} {y : Str} (lt : LtOf fs y) : (Alph y ∧ (fs.map (fg y)).all id = true) ↔ (fs ≠ [] ∧ (∀ f ∈ fs, GdF f) ∧ FewL fs) := by
  have sub : ∀ f ∈ fs, ∀ c ∈ ls f, c ∈ tl y := fun f hf c hc => (lt.2 c).mpr ⟨f, hf, hc⟩
  constructor
  · rintro ⟨⟨pw, h1, h3, hl⟩, ha⟩
    refine ⟨fun e => ?_, fun f hf => ?_, tl y, pw, h3, lt.2⟩
    · subst e
      cases q : tl y with
      | nil => rw [q] at h1; cases h1
      | cons c r =>
        obtain ⟨f, hf, _⟩ := (lt.2 c).mp (by rw [q]; exact List.mem_cons_self)
        cases hf
    · have ok := (fg_iff (sub f hf)).mp (List.all_eq_true.mp ha _ (List.mem_map.mpr ⟨f, hf, rfl⟩))
      refine ⟨?_, fun c hc => hl c (sub f hf c hc), ?_, ok.1⟩
      · cases q : f.1 with
        | true => exact List.length_pos_iff.mp (ok.2 q).1
        | false =>
          have := ok.1 q
          intro e
          rw [e] at this
          cases this
      · cases q : f.1 with
        | true => exact (ok.2 q).2
        | false =>
          have := ok.1 q
          cases e : ls f with
          | nil => exact .nil
          | cons a r =>
            rw [e] at this
            have : r = [] := List.length_eq_zero_iff.mp (Nat.succ.inj this)
            subst this
            exact .cons (fun _ h => (nomatch h)) .nil
  · rintro ⟨ne, gd, z, zp, z3, zm⟩
    refine ⟨⟨lt.1, ?_, ?_, fun c hc => ?_⟩, List.all_eq_true.mpr fun b hb => ?_⟩
    · cases fs with
      | nil => exact absurd rfl ne
      | cons f r =>
        cases e : ls f with
        | nil => exact absurd e (gd f List.mem_cons_self).1
        | cons a t => exact List.length_pos_of_mem (sub f List.mem_cons_self a (by rw [e]; exact List.mem_cons_self))
    · refine Nat.le_trans (nodup_len _ z (lt.1.imp fun h => Nat.ne_of_lt h) fun c hc => ?_) z3
      exact (zm c).mpr ((lt.2 c).mp hc)
    · obtain ⟨f, hf, h⟩ := (lt.2 c).mp hc
      exact (gd f hf).2.1 c h
    · obtain ⟨f, hf, rfl⟩ := List.mem_map.mp hb
      show fg y f = true
      refine (fg_iff (sub f hf)).mpr ⟨(gd f hf).2.2.2, fun _ => ⟨List.length_pos_iff.mpr (gd f hf).1, (gd f hf).2.2.1⟩⟩
theorem flat_ls (fs : List Fc) : ((fs.map ls).flatten).length ≤ ((fs.map wf).flatten).length ∧ fs.length ≤ ((fs.map wf).flatten).length := by
  induction fs with
  | nil => exact ⟨Nat.le_refl _, Nat.le_refl _⟩
  | cons f fs ih =>
    have h1 : (ls f).length + 1 ≤ (wf f).length := by
      cases q : f.1 with
      | true =>
        rw [wf_star q, List.length_cons, List.length_append]
        omega
      | false =>
        rw [wf_opt q, List.length_append]
        exact Nat.le_refl _
    rw [List.map_cons, List.map_cons, List.flatten_cons, List.flatten_cons, List.length_append, List.length_append, List.length_cons]
    omega
/-- what a text is read as -/
def Res (u : List Nat) (fs : List Fc) : Prop := (u = [45] ∧ fs = []) ∨ (u ≠ [45] ∧ Good u fs)
def spPp (K : PySem.W.Frag) (CT : Addr) : Sp := fun vs H Q E => ∃ v : V, vs = [v] ∧
  ((NoS K H v ∧ ∀ H' d, Same H H' → H' d = none → E (.ref CT) (some d) (upd H' d (.xd [(("line" : Str), .int 0)]))) ∨
   ∃ (x : Str), v = .str x ∧ (tl x).length ≤ 60 ∧
    (∀ H' r fs, Same H H' → IsP K H' r fs → Res (tl x) fs → Q r H') ∧
    (∀ H' d, Same H H' → H' d = none → (∀ gs, ¬ Res (tl x) gs) → E (.ref CT) (some d) (upd H' d (.xd [(("line" : Str), .int 0)]))))
structure DfPp (K : PySem.W.Frag) (mg : Str → Option Value) where
  rs : Df K mg "read_factors" sReadFactors ["text"]
  rf : Df K mg "read_factor" sReadFactor ["text", "start"]
  ff : Df K mg "format_factor" sFormatFactor ["factor"]
  lo : Df K mg "letters_of" sLettersOf ["factors"]
  al : Df K mg "is_alphabet" sIsAlphabet ["thing"]
  pr : DfPr K mg
  B : Bl mg
  me : ∃ t, mg "EMPTY_FORM" = some (.str "-" t)
  mm : ∃ t, mg "MOST_LETTERS" = some (.int 3 t)
theorem scPp : FnScope ["text", "product", "alphabet"] ["text"] (defScope sParseProduct) := ⟨rfl, rfl, rfl, by decide +kernel, rfl, by decide +kernel, by decide +kernel⟩
theorem ok_pp (D : Df K mg "parse_product" sParseProduct ["text"]) (X : DfPp K mg) (M : EX.DfE P K mg "InvalidText" "line" EX.MsgOk) : FnOk P w K mg base (L2.CX P w) 5 D.f D.fd ["text"] (spPp K M.C) := by
  have Gr : FnOk P w K mg base (L2.CX P w) 4 X.rs.f X.rs.fd ["text"] (spRfs K M.C) := ok_rfs X.rs X.rf X.ff M X.B X.pr.mt
  have Gl : FnOk P w K mg base CX0 1 X.lo.f X.lo.fd ["factors"] (spLofT K) := ok_lofT X.lo X.B.sorted X.B.set
  have Ga : FnOk P w K mg base CX0 2 X.al.f X.al.fd ["thing"] (spAlp K) := ok_alp X.al X.pr.a X.pr.ma X.pr.mz X.pr.mi X.pr.ms X.pr.ml X.mm
  have Gp : FnOk P w K mg base CX0 3 X.pr.p.f X.pr.p.fd ["alphabet", "thing"] (spIp K) := ok_ip X.pr
  have me : ∃ u, mg "EMPTY_FORM" = some u ∧ RelV (.str "-") u := by
    obtain ⟨t, e⟩ := X.me
    exact ⟨_, e, t, rfl⟩
  refine D.F.ok scPp (fun vs H Q E h => ?_) (fun cdv A outer s H vs Q E hr h => ?_)
  · obtain ⟨v, rfl, _⟩ := h
    rfl
  · obtain ⟨v, rfl, h⟩ := h
    have hr1 : Room 1 _ := hr.mono (by decide)
    have hr2 : Room 2 _ := hr.mono (by decide)
    have hr3 : Room 3 _ := hr.mono (by decide)
    have hr4 : Room 4 _ := hr
    have hr1 : Room (1 + 1) _ := hr2
    have hr1 : Room 1 _ := hr.mono (by decide)
    have sl := sizeLine_eq
    refine ⟨_, (pss_cons (ps_if (pt_not (pt_val (pe_callB call_isi (by rfl) X.pr.mi (by decide +kernel) (pa_cons (pv 0) (pa_cons (pe_bltn (v := V.ty "str") (by rfl) X.pr.ms (by decide +kernel : bootBuiltins "str" = some (.type "str")) rfl) pa_nil))))) (pss_one (ps_raise rfl (takes_of rfl rfl rfl rfl) (EX.pmk_err M.T M.iC M.tI (M.F w base) (hr.mono (by decide)) M.b (by rfl) M.g pe_int))) pss_nil) (pss_cons (ps_if (pt_cmpR op_eq (pv 0) (pe_glob (v := V.str "-") (by rfl) me.choose_spec.1 me.choose_spec.2) (nomark _)) (pss_one (ps_nox6 (ps_ret (pe_tup pa_nil)))) pss_nil) (pss_cons (ps_set (i := 1) scPp.nd rfl (.inl rfl) (pe_call Gr hr4 (by rfl) X.rs.g X.rs.F.kp X.rs.b .nil (passes_call (takes_of rfl rfl rfl rfl) (fun _ _ _ _ h => h)) (pa_cons (pv 0) pa_nil))) (pss_cons (ps_nox6 (ps_set (i := 2) scPp.nd rfl (.inl rfl) (pe_call Gl hr1 (by rfl) X.lo.g X.lo.F.kp X.lo.b .nil pass0 (pa_cons (pv 1) pa_nil)))) (pss_cons (ps_if (pw_or (pt_not (pt_val (pe_call Ga hr2 (by rfl) X.al.g X.al.F.kp X.al.b .nil pass0 (pa_cons (pv 2) pa_nil)))) (pw_or1 (pt_not (pt_val (pe_call Gp hr3 (by rfl) X.pr.p.g X.pr.p.F.kp X.pr.p.b .nil pass0 (pa_cons (pv 2) (pa_cons (pv 1) pa_nil))))))).pt (pss_one (ps_raise rfl (takes_of rfl rfl rfl rfl) (EX.pmk_err M.T M.iC M.tI (M.F w base) (hr.mono (by decide)) M.b (by rfl) M.g pe_int))) pss_nil) (pss_one (ps_nox6 (ps_ret (pv 1))))))))), ?_⟩
    have nl : EX.MsgOk (.int 0) := .inr (.inl ⟨_, rfl, by decide +kernel⟩)
    rcases h with ⟨⟨t, ty, kt⟩, k⟩ | ⟨x, rfl, x60, kq, ke⟩
    · refine ⟨v, rfl, _, _, _, _, false, rfl, .ty "str", ty, kt, false, rfl, iteT ⟨nl, fun d nd => k _ d (Same.refl _) nd⟩⟩
    refine ⟨.str x, rfl, _, _, _, _, true, rfl, .ty "str", .base (.str x), isi_kit, true, rfl, iteF ?_⟩
    refine ⟨.str x, rfl, rfl, _, rfl, ite2 (fun e => ?_) (fun e => ?_)⟩
    · have ex : x = "-" := V.str.inj (of_decide_eq_true e)
      refine ⟨Nat.zero_le _, fun p hp => ?_⟩
      exact kq _ _ [] (same_upd hp) ⟨p, [], rfl, SqT.of upd_same, .nil⟩ (.inl ⟨by rw [ex]; decide +kernel, rfl⟩)
    have ne : tl x ≠ [45] := fun q => e (decide_eq_true (by rw [show x = "-" from tl_inj (q.trans (by decide +kernel))]))
    refine ⟨.str x, rfl, x, rfl, by omega, fun H1 r fs s1 iP De lf f1 => ?_, fun H1 d s1 nd no => ?_⟩
    · obtain ⟨a, xs, rfl, ha, iF⟩ := iP
      obtain ⟨b1, b2⟩ := flat_ls fs
      have el := congrArg List.length De.eq
      rw [List.append_nil] at el
      refine ⟨.ref a, rfl, a, x, xs, fs, rfl, ha, iF, fun f hf => (lf f hf).1, x60, by omega, by omega, fun H2 y s2 lt => ?_⟩
      have y100 : (tl y).length ≤ 100000 := by
        have : (tl y).length ≤ (tl x).length := nodup_len _ _ (lt.1.imp fun h => Nat.ne_of_lt h) fun c hc => by
          obtain ⟨f, hf, h⟩ := (lt.2 c).mp hc
          exact (lf f hf).1 c h
        omega
      have bad : ¬ (Alph y ∧ (fs.map (fg y)).all id = true) → ∀ gs, ¬ Res (tl x) gs := fun nb gs hg => by
        rcases hg with ⟨q, _⟩ | ⟨_, G⟩
        · exact ne q
        · have := De.done G
          subst this
          exact nb ((good_iff lt).mpr G.2)
      have sH := (s1.trans s2)
      refine ⟨.str y, rfl, .str y, rfl, .inl ⟨y, rfl, y100, fun H3 s3 => ⟨_, rfl, ?_⟩⟩⟩
      have sH3 := sH.trans s3
      cases qa : alphB (tl y) with
      | false =>
        have na : ¬ Alph y := fun h => by
          rw [(alphB_iff lt.1).mpr h] at qa
          cases qa
        exact iteT (iteT ⟨nl, fun d nd => ke _ d sH3 nd (bad fun h => na h.1)⟩)
      | true =>
        have ya := (alphB_iff lt.1).mp qa
        refine iteF ?_
        refine ⟨.str y, rfl, .ref a, rfl, y, .ref a, (fs.map (fg y)).all id, rfl, .tup (same_tup (s2.trans s3) _ _ ha) ((iF.mono (same_tup (s2.trans s3))).obG fun f hf => (lf f hf).2) (by rw [List.length_map]; omega), fun H4 s4 => ⟨_, rfl, ?_⟩⟩
        have sH4 := sH3.trans s4
        cases qb : (fs.map (fg y)).all id with
        | false => exact iteT ⟨nl, fun d nd => ke _ d sH4 nd (bad fun h => by rw [h.2] at qb; cases qb)⟩
        | true =>
          have G := (good_iff lt).mp ⟨ya, qb⟩
          have st := (s2.trans s3).trans s4
          exact iteF ⟨.ref a, rfl, kq _ (.ref a) fs sH4 ⟨a, xs, rfl, same_tup st _ _ ha, iF.mono (same_tup st)⟩ (.inr ⟨ne, by have := De.eq; rw [List.append_nil] at this; exact this, G.1, G.2.1, G.2.2⟩)⟩
    · exact ke _ d s1 nd fun gs hg => by
        rcases hg with ⟨q, _⟩ | ⟨_, G⟩
        · exact ne q
        · exact no gs G
end
end DW
/-! one step of the law's reader -/
namespace DW
open PySem PySem.Spec PyProof.Rows L2 TL
set_option autoImplicit false
structure Cand (r : List Nat) (f : Fc) (m : Nat) (r' : List Nat) : Prop where
  force : ∀ g r2, GdF g → r = wf g ++ r2 → g = f ∧ r'.take 1 = [m]
  back : r'.take 1 = [m] → r = wf f ++ r'.drop 1
theorem take1_cons {l : List Nat} {m : Nat} (h : l.take 1 = [m]) : l = m :: l.drop 1 := by
  cases l with
  | nil => cases h
  | cons a t =>
    have : a = m := (List.cons.inj h).1
    rw [this]
    rfl
theorem cand_star {r : List Nat} {i : Nat} {f : Fc} (h0 : r[0]? = some 123) (hi : r[i]? = some 125) (least : ∀ j, j < i → r[j]? ≠ some 125) (k : f.1 = true) (l : ls f = (r.take i).drop 1) : Cand r f 42 (r.drop (i + 1)) := by
  have il := (List.getElem?_eq_some_iff.mp hi)
  have i0 : i ≠ 0 := fun e => by
    rw [e, h0] at hi
    cases hi
  have dr : r = r.take i ++ 125 :: r.drop (i + 1) := by
    have := (List.take_append_drop i r).symm
    rw [List.drop_eq_getElem_cons il.1, il.2] at this
    exact this
  have tk : r.take i = 123 :: (r.take i).drop 1 := by
    cases r with
    | nil => cases h0
    | cons a t =>
      cases h0
      cases i with
      | zero => exact absurd rfl i0
      | succ i => rfl
  refine ⟨fun g r2 hg eg => ?_, fun h => ?_⟩
  · by_cases kg : g.1 = true
    · obtain ⟨_, _, hb, hc⟩ := star_front hg kg eg
      have e : i = 1 + (ls g).length := by
        rcases Nat.lt_trichotomy i (1 + (ls g).length) with q | q | q
        · exact absurd hi (hb _ q)
        · exact q
        · exact absurd hc (least _ q)
      have eq : r = (123 :: ls g) ++ 125 :: 42 :: r2 := by
        rw [eg, wf_star kg]
        simp
      refine ⟨fc_ext (kg.trans k.symm) ?_, ?_⟩
      · rw [l, e, eq, List.take_append_of_le_length (by simp; omega), List.take_of_length_le (by simp; omega)]
        rfl
      · have e2 : r = ((123 :: ls g) ++ [125]) ++ 42 :: r2 := by rw [eq]; simp
        rw [e, e2, List.drop_left' (by rw [List.length_append, List.length_cons]; show _ + 1 + 1 = _; omega)]
        rfl
    · obtain ⟨c, _, c1, c2, eq⟩ := opt_front hg (by simpa using kg) eg
      rw [eq] at h0
      cases h0
      omega
  · have := take1_cons h
    rw [wf_star k, l]
    have key : ∀ (t q : List Nat), t = 123 :: t.drop 1 → q = 42 :: q.drop 1 → t ++ 125 :: q = 123 :: (t.drop 1 ++ [125, 42]) ++ q.drop 1 := by
      intro t q h1 h2
      cases t with
      | nil => cases h1
      | cons a t =>
        cases q with
        | nil => cases h2
        | cons b q =>
          have ha : a = 123 := (List.cons.inj h1).1
          have hb : b = 42 := (List.cons.inj h2).1
          subst ha hb
          simp
    exact dr.trans (key _ _ tk this)
theorem cand_opt {r : List Nat} {f : Fc} (ne : r ≠ []) (k : f.1 = false) (l : ls f = r.take 1) (no : r[0]? = some 123 → 125 ∉ r) : Cand r f 63 (r.drop 1) := by
  refine ⟨fun g r2 hg eg => ?_, fun h => ?_⟩
  · by_cases kg : g.1 = true
    · obtain ⟨h0, _, _, hc⟩ := star_front hg kg eg
      exact absurd (List.mem_of_getElem? hc) (no h0)
    · obtain ⟨c, hc, _, _, eq⟩ := opt_front hg (by simpa using kg) eg
      refine ⟨fc_ext ((by simpa using kg : g.1 = false).trans k.symm) ?_, by rw [eq]; rfl⟩
      rw [l, hc, eq]
      rfl
  · have := take1_cons h
    rw [wf_opt k, l]
    cases r with
    | nil => exact absurd rfl ne
    | cons a t =>
      show a :: t = [a] ++ [63] ++ (t.drop 1)
      have : t = 63 :: t.drop 1 := this
      rw [List.append_assoc]
      exact congrArg (a :: ·) this
/-- the checks of the reader -/
def Okl (l : List Nat) : Prop := l ≠ [] ∧ (∀ c ∈ l, 97 ≤ c ∧ c ≤ 122) ∧ l.Pairwise (· < ·)
theorem okl_gd {f : Fc} (h : Okl (ls f)) (k : f.1 = false → (ls f).length ≤ 1) : GdF f := ⟨h.1, h.2.1, h.2.2, fun q => by
  have := List.length_pos_iff.mpr h.1
  have := k q
  omega⟩
theorem Cand.none {r r' : List Nat} {f : Fc} {m : Nat} (C : Cand r f m r') (h : ¬ (Okl (ls f) ∧ r'.take 1 = [m])) : ∀ g r2, GdF g → ¬ r = wf g ++ r2 := fun g r2 hg eg => by
  obtain ⟨rfl, e⟩ := C.force g r2 hg eg
  exact h ⟨⟨hg.1, hg.2.1, hg.2.2.1⟩, e⟩
end DW
/-! texts, lists of texts and of numbers as data; slices and sums of tuples; no products -/
namespace DW
open PySem PySem.Spec PyProof.Rows L2 TL
set_option autoImplicit false
theorem nil_shaped : SeqAt.shaped (.list []) = true := by decide +kernel
theorem cut_mem {x : Str} {lo hi : Option Int} {c : Nat} (h : c ∈ tl (cutS x lo hi)) : c ∈ tl x :=
  List.mem_of_mem_drop (List.mem_of_mem_take (show c ∈ (x.cps.toList.drop (HT.sIx x.length 0 lo)).take (HT.sIx x.length x.length hi - HT.sIx x.length 0 lo) from h))
def Wd (n : Nat) (u : Str) : Prop := (tl u).length ≤ n ∧ ∀ c ∈ tl u, c < 128
theorem Wd.mono {n m : Nat} {u : Str} (h : Wd n u) (l : n ≤ m) : Wd m u := ⟨Nat.le_trans h.1 l, h.2⟩
theorem Wd.app {n m : Nat} {u v : Str} (h : Wd n u) (g : Wd m v) : Wd (n + m) (u ++ v) := by
  constructor
  · rw [tl_app, List.length_append]
    have := h.1
    have := g.1
    omega
  · intro c hc
    rw [tl_app] at hc
    rcases List.mem_append.mp hc with q | q
    · exact h.2 c q
    · exact g.2 c q
theorem Wd.cut {n : Nat} {u : Str} (h : Wd n u) (lo hi : Option Int) : Wd n (cutS u lo hi) := by
  refine ⟨?_, fun c hc => h.2 c (cut_mem hc)⟩
  have := cutS_length u lo hi
  have e : ∀ y : Str, y.length = (tl y).length := fun y => (Array.length_toList).symm
  rw [e, e] at this
  exact Nat.le_trans this h.1
def strD (ws : List Str) : PyData := .list (ws.map PyData.str)
theorem str_dpAll {K : PySem.W.Frag} {H : Hp} : ∀ ws : List Str, DpAll K H (ws.map V.str) (ws.map PyData.str)
  | [] => .nil
  | x :: r => .cons (.str _) (str_dpAll r)
theorem str_dp {K : PySem.W.Frag} {H : Hp} {a : Addr} {ws : List Str} (h : SqL K H a (ws.map V.str)) : Dp K H (.ref a) (strD ws) := .lst h (str_dpAll ws)
theorem str_ok : ∀ (ws : List Str), (∀ u ∈ ws, (tl u).length ≤ 20 ∧ ∀ c ∈ tl u, c < 128) → PyData.canLayAll0 (ws.map PyData.str) = true ∧ PyData.depthAll (ws.map PyData.str) = 0 ∧ PyData.weightAll (ws.map PyData.str) ≤ 21 * ws.length ∧
    PyData.showableAll (ws.map PyData.str) = true ∧ PyData.hasDictAll (ws.map PyData.str) = false ∧ PyData.intsShortAll 13 (ws.map PyData.str) = true
  | [], _ => ⟨rfl, rfl, Nat.le_refl _, rfl, rfl, rfl⟩
  | u :: r, h => by
    obtain ⟨h1, h2, h3, h4, h5, h6⟩ := str_ok r fun q hq => h q (List.mem_cons_of_mem _ hq)
    obtain ⟨ul, uc⟩ := h u List.mem_cons_self
    have us : u.cps.size = (tl u).length := (Array.length_toList).symm
    have so : PyData.strOk u = true := by
      unfold PyData.strOk
      rw [Array.all_eq_true]
      intro i hi
      have := uc u.cps[i] (by show u.cps[i] ∈ u.cps.toList; rw [Array.mem_toList_iff]; exact Array.getElem_mem hi)
      exact decide_eq_true (by omega)
    rw [List.map_cons]
    refine ⟨by simp only [PyData.canLayAll0, PyData.canLay0, so, h1, Bool.and_self], by simp only [PyData.depthAll, PyData.depth, h2]; rfl, ?_, by simp only [PyData.showableAll, PyData.showable, h4, Bool.and_self], by simp only [PyData.hasDictAll, PyData.hasDict, h5, Bool.or_self], by simp only [PyData.intsShortAll, PyData.intsShort, h6, Bool.and_self]⟩
    simp only [PyData.weightAll, PyData.weight, List.length_cons]
    omega
theorem str_shaped {ws : List Str} (h : ∀ u ∈ ws, (tl u).length ≤ 20 ∧ ∀ c ∈ tl u, c < 128) : SeqAt.shaped (strD ws) = true := by
  obtain ⟨h1, h2, _⟩ := str_ok ws h
  unfold SeqAt.shaped strD
  rw [Bool.and_eq_true]
  exact ⟨by simp only [PyData.canLay0, h1], decide_eq_true (by simp only [PyData.depth, h2]; omega)⟩
theorem str_eqv {ws : List Str} (h : ∀ u ∈ ws, (tl u).length ≤ 20 ∧ ∀ c ∈ tl u, c < 128) : PyData.eqv (strD ws) (strD ws) = true := by
  obtain ⟨h1, _⟩ := str_ok ws h
  exact PySem.SeqAt.eqv_refl _ (by unfold strD; simp only [PyData.canLay0, h1])
theorem str_eqv_nil (ws : List Str) : PyData.eqv (strD ws) (.list []) = ws.isEmpty := by
  unfold strD
  cases ws <;> simp [PyData.eqv, PyData.eqvAll]
theorem asc_cons (a b : Nat) (r : List Nat) : ascB (a :: b :: r) = (decide (a < b) && ascB (b :: r)) := rfl
theorem asc_pw : ∀ l : List Nat, ascB l = true ↔ l.Pairwise (· < ·)
  | [] => ⟨fun _ => List.Pairwise.nil, fun _ => rfl⟩
  | [a] => ⟨fun _ => List.pairwise_singleton _ _, fun _ => rfl⟩
  | a :: b :: r => by
    rw [asc_cons, Bool.and_eq_true, decide_eq_true_eq, asc_pw (b :: r)]
    constructor
    · rintro ⟨h, p⟩
      refine List.pairwise_cons.mpr ⟨fun u hu => ?_, p⟩
      rcases List.mem_cons.mp hu with q | q
      · omega
      · have := (List.pairwise_cons.mp p).1 u q
        omega
    · intro p
      obtain ⟨h, p'⟩ := List.pairwise_cons.mp p
      exact ⟨h b List.mem_cons_self, p'⟩
theorem nat_uniq : ∀ (l m : List Nat), l.Pairwise (· < ·) → m.Pairwise (· < ·) → (∀ k, k ∈ l ↔ k ∈ m) → l = m
  | [], [], _, _, _ => rfl
  | [], b :: m, _, _, h => by
    have := (h b).mpr List.mem_cons_self
    cases this
  | a :: l, [], _, _, h => by
    have := (h a).mp List.mem_cons_self
    cases this
  | a :: l, b :: m, p, q, h => by
    obtain ⟨pa, p'⟩ := List.pairwise_cons.mp p
    obtain ⟨qb, q'⟩ := List.pairwise_cons.mp q
    have ab : a = b := by
      rcases List.mem_cons.mp ((h a).mp List.mem_cons_self) with e | e
      · exact e
      · rcases List.mem_cons.mp ((h b).mpr List.mem_cons_self) with f | f
        · exact f.symm
        · have h1 := pa b f
          have h2 := qb a e
          omega
    subst ab
    have e := nat_uniq l m p' q' fun k => by
      constructor
      · intro hk
        rcases List.mem_cons.mp ((h k).mp (List.mem_cons_of_mem _ hk)) with e | e
        · have := pa k hk
          omega
        · exact e
      · intro hk
        rcases List.mem_cons.mp ((h k).mpr (List.mem_cons_of_mem _ hk)) with e | e
        · have := qb k hk
          omega
        · exact e
    rw [e]
theorem set_join {x : Str} {ls ys : List Str} (nd : ls.Nodup) (mem : ∀ k, k ∈ ls ↔ k ∈ TX.signs x) (pm : ys.Perm ls) (so : sortedS ys = true) : decide (V.str (Txt.join "" ys) = V.str x) = ascB (tl x) ∧ (∀ y ∈ ys, ∃ c, y = one c) := by
  have my : ∀ k, k ∈ ys ↔ k ∈ TX.signs x := fun k => (pm.mem_iff).trans (mem k)
  have h1 : ∀ y ∈ ys, ∃ c, y = one c := fun y hy => by
    obtain ⟨c, _, e⟩ := List.mem_map.mp ((my y).mp hy)
    exact ⟨c, e.symm⟩
  obtain ⟨cs, rfl, pw⟩ := sorted_ones ys h1 (pm.nodup_iff.mpr nd) so
  refine ⟨?_, h1⟩
  have ej : tl (Txt.join "" (cs.map one)) = cs := by rw [tl_cat, flat_ones]
  have mc : ∀ k, k ∈ cs ↔ k ∈ tl x := fun k => by
    have q := my (one k)
    constructor
    · intro h
      obtain ⟨c, hc, e⟩ := List.mem_map.mp (q.mp (List.mem_map.mpr ⟨k, h, rfl⟩))
      have e' : tl (one c) = tl (one k) := congrArg tl e
      rw [tl_one, tl_one] at e'
      rw [← (List.cons.inj e').1]
      exact hc
    · intro h
      obtain ⟨c, hc, e⟩ := List.mem_map.mp (q.mpr (List.mem_map.mpr ⟨k, h, rfl⟩))
      have e' : tl (one c) = tl (one k) := congrArg tl e
      rw [tl_one, tl_one] at e'
      rw [← (List.cons.inj e').1]
      exact hc
  rw [Bool.eq_iff_iff, decide_eq_true_eq, asc_pw]
  constructor
  · intro h
    rw [← V.str.inj h, ej]
    exact pw
  · intro h
    rw [tl_inj (ej.trans (nat_uniq cs (tl x) pw h mc))]
theorem ones_ok {cs : List Nat} (h : ∀ c ∈ cs, c < 128) : ∀ u ∈ cs.map one, (tl u).length ≤ 20 ∧ ∀ c ∈ tl u, c < 128 := fun u hu => by
  obtain ⟨c, hc, rfl⟩ := List.mem_map.mp hu
  rw [tl_one]
  exact ⟨by show 1 ≤ 20; decide, fun d hd => by rw [List.mem_singleton.mp hd]; exact h c hc⟩
def intD (ns : List Int) : PyData := .list (ns.map PyData.int)
theorem int_dpAll {K : PySem.W.Frag} {H : Hp} : ∀ ns : List Int, DpAll K H (ns.map V.int) (ns.map PyData.int)
  | [] => .nil
  | x :: r => .cons (.int _) (int_dpAll r)
theorem int_dp {K : PySem.W.Frag} {H : Hp} {a : Addr} {ns : List Int} (h : SqL K H a (ns.map V.int)) : Dp K H (.ref a) (intD ns) := .lst h (int_dpAll ns)
theorem int_ok : ∀ ns : List Int, PyData.canLayAll0 (ns.map PyData.int) = true ∧ PyData.depthAll (ns.map PyData.int) = 0
  | [] => ⟨rfl, rfl⟩
  | x :: r => by
    obtain ⟨h1, h2⟩ := int_ok r
    rw [List.map_cons]
    exact ⟨by simp only [PyData.canLayAll0, PyData.canLay0, h1, Bool.and_self], by simp only [PyData.depthAll, PyData.depth, h2]; rfl⟩
theorem int_shaped (ns : List Int) : SeqAt.shaped (intD ns) = true := by
  obtain ⟨h1, h2⟩ := int_ok ns
  unfold SeqAt.shaped intD
  rw [Bool.and_eq_true]
  exact ⟨by simp only [PyData.canLay0, h1], decide_eq_true (by simp only [PyData.depth, h2]; omega)⟩
theorem int_eqv_nil (ns : List Int) : PyData.eqv (intD ns) (.list []) = ns.isEmpty := by
  unfold intD
  cases ns <;> simp [PyData.eqv, PyData.eqvAll]
theorem atI_of {α : Type} {xs : List α} {i : Int} {j : Nat} {v : α} (e : i = (j : Int)) (h : xs[j]? = some v) : atI xs i = some v := by
  rw [e]
  exact atI_nat h
/-! ### slices and sums of tuples -/
theorem sl_any {K : PySem.W.Frag} {H : Hp} {a : Addr} {xs : List V} {lo hi : Option Int} {Q : VK} (ha : SqT K H a xs) (k : ∀ H' a', Same H H' → SqT K H' a' (cutV xs lo hi) → Q (.ref a') H') : rSlA K (.ref a) lo hi H Q := by
  refine ⟨a, xs, rfl, ha, fun h => k H a (Same.refl _) ?_, fun _ p hp => k _ p (same_upd hp) (SqT.of upd_same)⟩
  have e : cutV xs lo hi = xs := by
    unfold cutV
    rw [h.1, h.2, List.drop_zero, Nat.sub_zero, List.take_length]
  rw [e]
  exact ha
theorem cat_any {K : PySem.W.Frag} {H : Hp} {a b : Addr} {xs ys : List V} {Q : VK} (ha : SqT K H a xs) (hb : SqT K H b ys) (hl : xs.length + ys.length ≤ sizeLine) (k : ∀ H' a', Same H H' → SqT K H' a' (xs ++ ys) → Q (.ref a') H') : rCatA K (.ref a) (.ref b) H Q := by
  refine ⟨a, b, xs, ys, rfl, rfl, ha, hb, hl, fun h => k H b (Same.refl _) ?_, fun _ h => k H a (Same.refl _) ?_, fun _ _ p hp => k _ p (same_upd hp) (SqT.of upd_same)⟩
  · rw [h]
    exact hb
  · rw [h, List.append_nil]
    exact ha
theorem cut_take (xs : List V) {k : Int} (h0 : 0 ≤ k) (h : k ≤ xs.length) : cutV xs none (some k) = xs.take k.toNat := by
  obtain ⟨n, rfl⟩ := Int.eq_ofNat_of_zero_le h0
  unfold cutV
  rw [HT.sIx_none, HT.sIx_nat, List.drop_zero, Nat.sub_zero, Nat.min_eq_left (by omega)]
  rfl
theorem cut_drop (xs : List V) {k : Int} (h0 : 0 ≤ k) : cutV xs (some k) none = xs.drop k.toNat := by
  obtain ⟨n, rfl⟩ := Int.eq_ofNat_of_zero_le h0
  unfold cutV
  rw [HT.sIx_none, HT.sIx_nat]
  show List.take _ (List.drop (min n xs.length) xs) = xs.drop n
  by_cases c : n ≤ xs.length
  · rw [Nat.min_eq_left c]
    exact List.take_of_length_le (by rw [List.length_drop]; omega)
  · rw [Nat.min_eq_right (by omega), List.drop_length, List.drop_of_length_le (by omega), List.take_nil]
end DW
/-! `_law_read` -/
namespace DW
open PySem PySem.Spec PyProof.Rows L2 TL
set_option autoImplicit false
def spRd (K : PySem.W.Frag) : Sp := fun vs H Q _ => ∃ (x : Str), vs = [.str x] ∧ (tl x).length ≤ 60 ∧ (∀ c ∈ tl x, c < 128) ∧
  (∀ H' r fs, Same H H' → IsP K H' r fs → Res (tl x) fs → Q r H') ∧ (∀ H', Same H H' → (∀ gs, ¬ Res (tl x) gs) → Q .non H')
theorem cutS_from (x : Str) (i : Nat) : tl (cutS x (some (i : Int)) none) = (tl x).drop i := by
  show (x.cps.toList.drop (HT.sIx x.length 0 (some (i : Int)))).take (HT.sIx x.length x.length none - HT.sIx x.length 0 (some (i : Int))) = _
  rw [HT.sIx_none, HT.sIx_nat]
  have e : x.length = x.cps.toList.length := (Array.length_toList).symm
  rw [e]
  by_cases h : i ≤ x.cps.toList.length
  · rw [Nat.min_eq_left h, List.take_of_length_le (by rw [List.length_drop]; omega)]
  · rw [Nat.min_eq_right (by omega), List.drop_eq_nil_of_le (Nat.le_refl _), List.drop_eq_nil_of_le (show (tl x).length ≤ i from by show x.cps.toList.length ≤ i; omega), List.take_nil]
section
variable {P : Program} {w : World} {K : PySem.W.Frag} {mg : Str → Option Value} {base : Heap}
theorem scRd : FnScope ["_law_text", "_law_found", "_law_rest", "_law_letters", "_law_mark", "_law_used", "_law_c", "_law_kind"] ["_law_text"] (defScope sLRead) := ⟨rfl, rfl, rfl, by decide +kernel, rfl, by decide +kernel, by decide +kernel⟩
theorem ok_rd (D : Df K mg "_law_read" sLRead ["_law_text"]) (B : Bl mg) (mt : mg "tuple" = none) : FnOk P w K mg base CX0 1 D.f D.fd ["_law_text"] (spRd K) := by
  refine D.F.ok scRd (fun vs H Q E h => ?_) (fun cdv A outer s H vs Q E hr h => ?_)
  · obtain ⟨x, rfl, _⟩ := h
    rfl
  · obtain ⟨x, rfl, x60, x128, kq, kn⟩ := h
    have sl := sizeLine_eq
    have sx : ∀ y : Str, y.length = (tl y).length := fun y => (Array.length_toList).symm
    refine ⟨_, PSs.nox (C8.pss_cut (ps_par (i := 1) (j := 2) rfl scRd.nd rfl rfl (by decide) rfl rfl (pa_cons (pe_lst pa_nil) (pa_cons (pe_ifExp (pt_cmpR op_ne (pv 0) pe_str (nomark _)) (pv 0) pe_str) pa_nil)) (by rfl)) (pss_cons (ps_while PassesOwn.never (pt_cmpR op_ne (pv 2) pe_str (nomark _)) (pss_cons (ps_set (i := 3) scRd.nd rfl (.inl rfl) (pe_slice sl_str (pv 2) po_none (po_some pe_int))) (C8.pss_cut (ps_if (pw_and (pt_cmpR op_eq (pv 3) pe_str (nomark _)) (pw_and1 (pt_cmpR op_in_str pe_str (pv 2) rfl))).pt (pss_cons (ps_set (i := 3) scRd.nd rfl (.inl rfl) (pe_slice sl_str (pv 2) (po_some pe_int) (po_some (pe_m1 PySem.F.slot_str_index PySem.F.type_str_index mt_sindex (pv 2) pe_str)))) (pss_cons (ps_expr (pe_bm PySem.F.plainAttrs_list PySem.F.slot_list_append PySem.F.type_list_append mt_append (pv 1) (pa_cons (pe_tup (pa_cons pe_str (pa_cons (pv 3) pa_nil))) pa_nil))) (pss_cons (ps_set (i := 2) scRd.nd rfl (.inl rfl) (pe_slice sl_str (pv 2) (po_some (pe_op op_add (pe_callB call_len_str (by rfl) B.len PySem.boot_len (pa_cons (pv 3) pa_nil)) pe_int)) po_none)) (pss_one (ps_set (i := 4) scRd.nd rfl (.inl rfl) pe_str))))) (pss_cons (ps_expr (pe_bm PySem.F.plainAttrs_list PySem.F.slot_list_append PySem.F.type_list_append mt_append (pv 1) (pa_cons (pe_tup (pa_cons pe_str (pa_cons (pv 3) pa_nil))) pa_nil))) (pss_cons (ps_set (i := 2) scRd.nd rfl (.inl rfl) (pe_slice sl_str (pv 2) (po_some pe_int) po_none)) (pss_one (ps_set (i := 4) scRd.nd rfl (.inl rfl) pe_str))))) (pss_cons (ps_if (pw_or (pt_cmpR op_eq (pv 3) pe_str (nomark _)) (pw_or (pt_cmpR (op_neD hr.units) (pe_lc (own := [("_law_c", 6)]) (g := gName 6) rfl scRd.nd (pi_str (pv 3)) (blkOk_by (N := ["_law_text", "_law_found", "_law_rest", "_law_letters", "_law_mark", "_law_used", "_law_c", "_law_kind"]) (sc := defScope sLRead) (by decide +kernel)) (fun _ _ _ _ _ => pg_name (i := 6) scRd.nd rfl (Or.inl rfl)) (fun _ _ _ _ _ => (pts_one (pt_not (pt_chain op_le_str op_le_str pe_str (pv 6) pe_str)))) (fun _ _ _ _ _ => (pv 6))) (pe_lst pa_nil) (nomark _)) (pw_or1 (pt_cmpR op_ne (pe_slice sl_str (pv 2) po_none (po_some pe_int)) (pv 4) (nomark _))))).pt (pss_one (ps_ret pe_non)) pss_nil) (pss_cons (ps_if (pt_cmpR op_ne (pe_join pe_str (pe_callB (TX.cr_sortTx rfl) (by rfl) B.sorted (by decide +kernel) (pa_cons (pe_callTy (TX.cr_setT rfl) (by rfl) B.set (by decide +kernel) (pa_cons (pv 3) pa_nil)) pa_nil))) (pv 3) (nomark _)) (pss_one (ps_ret pe_non)) pss_nil) (pss_one (ps_set (i := 2) scRd.nd rfl (.inl rfl) (pe_slice sl_str (pv 2) (po_some pe_int) po_none)))))))) (pss_cons (ps_set (i := 5) scRd.nd rfl (.inl rfl) (pe_callB (TX.cr_sortTx rfl) (by rfl) B.sorted (by decide +kernel) (pa_cons (pe_callTy (TX.cr_setT rfl) (by rfl) B.set (by decide +kernel) (pa_cons (pe_join pe_str (pe_lc (own := [("_law_kind", 7), ("_law_letters", 3)]) (g := gTup K 2 (gCons (gName 7) (gCons (gName 3) gNil))) rfl scRd.nd (pi_list (pv 1)) (blkOk_by (N := ["_law_text", "_law_found", "_law_rest", "_law_letters", "_law_mark", "_law_used", "_law_c", "_law_kind"]) (sc := defScope sLRead) (by decide +kernel)) (fun _ _ _ _ _ => (pg_tup rfl (pgs_cons (pg_name (i := 7) scRd.nd rfl (.inl rfl)) (pgs_cons (pg_name (i := 3) scRd.nd rfl (.inl rfl)) pgs_nil)))) (fun _ _ _ _ _ => pts_nil) (fun _ _ _ _ _ => (pv 3)))) pa_nil)) pa_nil))) (pss_one (ps_ret (pe_ifExp (pw_and (pt_cmpR op_ne (pv 0) pe_str (nomark _)) (pw_and1 (pt_cmpR op_lt (pe_callB call_len_seq (by rfl) B.len PySem.boot_len (pa_cons (pv 5) pa_nil)) pe_int (nomark _)))).pt (pe_callTy call_tuple_of (by rfl) mt (by decide +kernel) (pa_cons (pv 1) pa_nil)) pe_non)))))), ?_⟩
    refine ⟨fun σ H' => ∃ (r : Str) (L : Addr), σ = [some (.str x), some (.ref L), some (.str r), none, none, none, none, none] ∧ H' L = some (.lst []) ∧ H L = none ∧ Same H H' ∧ ((tl x = [45] ∧ tl r = []) ∨ (tl x ≠ [45] ∧ r = x)), ?_, ?_⟩
    · refine ⟨Nat.zero_le _, fun L hL => ⟨.str x, rfl, rfl, _, rfl, ite2 (fun e => ?_) (fun e => ?_)⟩⟩
      · have ne : tl x ≠ [45] := fun q => by
          rw [show x = "-" from tl_inj (q.trans (by decide +kernel))] at e
          exact absurd e (by decide)
        exact ⟨.str x, rfl, _, _, rfl, x, L, rfl, upd_same, hL, same_upd hL, .inr ⟨ne, rfl⟩⟩
      · have ex : x = "-" := Classical.byContradiction fun q => e (by rw [decide_eq_false (fun h => q (V.str.inj h))]; rfl)
        exact ⟨_, _, rfl, "", L, rfl, upd_same, hL, same_upd hL, .inl ⟨by rw [ex]; decide +kernel, rfl⟩⟩
    rintro σ H1 ⟨r0, L, rfl, gL0, hL, s1, hx⟩
    have r60 : (tl r0).length ≤ 60 := by
      rcases hx with ⟨_, e⟩ | ⟨_, rfl⟩
      · rw [e]
        exact Nat.zero_le _
      · exact x60
    have rsub : ∀ c ∈ tl r0, c ∈ tl x := by
      rcases hx with ⟨_, e⟩ | ⟨_, rfl⟩
      · rw [e]
        exact fun c h => (nomatch h)
      · exact fun c h => h
    have nores : tl r0 ≠ [] → (∀ gs, ¬ Good (tl r0) gs) → ∀ gs, ¬ Res (tl x) gs := by
      rcases hx with ⟨_, e⟩ | ⟨ne, rfl⟩
      · exact fun h => absurd e h
      · intro _ h gs hg
        rcases hg with ⟨q, _⟩ | ⟨_, G⟩
        · exact ne q
        · exact h gs G
    refine ⟨fun m σ H' => ∃ (r : Str) (vs : List V) (fs : List Fc) (y3 y4 : Option V), σ = [some (.str x), some (.ref L), some (.str r), y3, y4, none, none, none] ∧ H' L = some (.lst vs) ∧ IsFs K H' vs fs ∧ Dec (tl r0) fs (tl r) ∧ (∀ f ∈ fs, GdF f) ∧ Same H H' ∧ m = (tl r).length, ⟨_, r0, [], [], _, _, rfl, gL0, .nil, Dec.start _, fun f hf => (nomatch hf), s1, rfl⟩, ?_⟩
    rintro m σ H2 ⟨r, vs, fs, y3, y4, rfl, gL, iF, De, gd, sm, rfl⟩
    have rr : (tl r).length ≤ 60 := by
      have := congrArg List.length De.eq
      rw [List.length_append] at this
      omega
    have vl := iF.len
    have fsl : fs.length ≤ 60 := by
      have := (flat_ls fs).2
      have := congrArg List.length De.eq
      rw [List.length_append] at this
      omega
    refine ⟨_, rfl, rfl, _, rfl, ite2 (fun e => ?_) (fun e => ?_)⟩
    · have rne : tl r ≠ [] := fun q => by
        rw [show r = "" from tl_inj q] at e
        exact absurd e (by decide)
      have r0ne : tl r0 ≠ [] := fun q => by
        have := De.eq
        rw [q] at this
        exact rne (List.append_eq_nil_iff.mp this.symm).2
      refine ⟨fun σ H' => ∃ (r' : Str) (vs : List V) (fs : List Fc) (y3 y4 : Option V), (tl r').length < (tl r).length ∧ σ = [some (.str x), some (.ref L), some (.str r'), y3, y4, none, none, none] ∧ H' L = some (.lst vs) ∧ IsFs K H' vs fs ∧ Dec (tl r0) fs (tl r') ∧ (∀ f ∈ fs, GdF f) ∧ Same H H', ?_, ?_⟩
      · rintro σ' H' ⟨r', vs, fs, y3, y4, e0, e1, e2, e3, e4, e5, e6⟩
        exact ⟨_, e0, r', vs, fs, y3, y4, e1, e2, e3, e4, e5, e6, rfl⟩
      have sr : r.length = (tl r).length := sx r
      have t1 : tl (cutS r none (some 1)) = (tl r).take 1 := by
        show (r.cps.toList.drop (HT.sIx r.length 0 none)).take (HT.sIx r.length r.length (some ((1 : Nat) : Int)) - HT.sIx r.length 0 none) = _
        rw [HT.sIx_none, HT.sIx_nat, Nat.min_eq_left (by have := List.length_pos_iff.mpr rne; omega)]
        rfl
      refine ⟨.str r, rfl, ?_⟩
      unfold tNoPart
      refine ⟨_, rfl, r, rfl, by omega, ?_⟩
      refine ⟨fun σ' H' => ∃ (l r' m : Str) (mc : Nat) (b : Bool) (v : V), σ' = [some (.str x), some (.ref L), some (.str r'), some (.str l), some (.str m), none, none, none] ∧ H' L = some (.lst (vs ++ [v])) ∧ IsF K H' v (b, l) ∧ IsFs K H' vs fs ∧ tl m = [mc] ∧ Cand (tl r) (b, l) mc (tl r') ∧ (b = false → (tl l).length ≤ 1) ∧ (∀ c ∈ tl l, c ∈ tl r) ∧ (tl r').length ≤ (tl r).length ∧ (tl l).length ≤ 60 ∧ Same H H', ?_, ?_⟩
      · refine ⟨_, rfl, rfl, _, rfl, ite2 (fun e1 => ⟨_, rfl, _, _, rfl, rfl, _, rfl, ite2 (fun e2 => ?_) (fun e2 => ?_)⟩) (fun e1 => ?_)⟩
        · have h0 : (tl r)[0]? = some 123 := by
            have := congrArg tl (V.str.inj (of_decide_eq_true e1))
            rw [t1, show tl "{" = [123] by decide +kernel] at this
            rw [take1_cons this]
            rfl
          have eb : ("}" : Str) = ⟨#[125]⟩ := by decide +kernel
          rw [eb] at e2
          have h125 : 125 ∈ r.cps.toList := by
            have := PySem.StrLaws.found_one r 125
            rw [e2] at this
            exact of_decide_eq_true this.symm
          obtain ⟨i, ho, hi, least⟩ := FD.occ_one h125
          rw [← eb] at ho
          have il := (List.getElem?_eq_some_iff.mp hi).1
          have il : i < (tl r).length := il
          have i0 : i ≠ 0 := fun q => by
            subst q
            have hi : (tl r)[0]? = some 125 := hi
            rw [h0] at hi
            cases hi
          refine ⟨.str r, rfl, _, rfl, .str r, rfl, ⟨_, rfl⟩, r, _, i, [], rfl, rfl, ho, _, rfl, r, rfl, by omega, ?_⟩
          have tlc : tl (cutS r (some 1) (some (i : Int))) = ((tl r).take i).drop 1 := by
            rw [show (1 : Int) = ((1 : Nat) : Int) from rfl, cutS_nat, List.drop_take]
          have lc : (tl (cutS r (some 1) (some (i : Int)))).length = i - 1 := by
            rw [tlc, List.length_drop, List.length_take]
            omega
          generalize hl : cutS r (some 1) (some (i : Int)) = l at tlc lc ⊢
          have sl2 := sx l
          refine ⟨.ref L, rfl, .inl ⟨rfl, _, SqL.of gL⟩, .str l, rfl, by show 2 ≤ sizeLine; decide, fun p hp => ?_⟩
          have sp := same_upd (o := .tup [V.str "star", V.str l]) hp
          refine ⟨L, vs, .ref p, rfl, rfl, sp _ _ gL, by omega, ?_⟩
          refine ⟨.str r, rfl, .str l, rfl, l, rfl, by omega, _, _, rfl, rfl, _, rfl, ?_⟩
          have il2 : (l.length : Int) + 2 = ((i + 1 : Nat) : Int) := by omega
          have tr : tl (cutS r (some ((l.length : Int) + 2)) none) = (tl r).drop (i + 1) := by
            rw [il2, cutS_from]
          have isf : IsF K (upd (upd H2 p (.tup [V.str "star", V.str l])) L (.lst (vs ++ [.ref p]))) (.ref p) (true, l) := ⟨p, rfl, upd_lst (sp _ _ gL) _ _ (SqT.of upd_same)⟩
          refine ⟨r, rfl, by omega, l, _, "*", 42, true, .ref p, rfl, upd_same, isf, (iF.mono (same_tup sp)).mono (fun b xs h => upd_lst (sp _ _ gL) b xs h), by decide +kernel, ?_, fun h => (nomatch h), fun c hc => ?_, ?_, ?_, fun b o e => (upd_ne (ne_of_none e hL)).trans ((sm.trans sp) _ _ e)⟩
          · rw [tr]
            exact cand_star h0 hi least rfl tlc
          · rw [tlc] at hc
            exact List.mem_of_mem_take (List.mem_of_mem_drop hc)
          · rw [tr, List.length_drop]
            omega
          · first
              | omega
              | (rw [t1, List.length_take]; omega)
        all_goals
          have no : (tl r)[0]? = some 123 → 125 ∉ tl r := by
            intro h0 h
            first
              | refine e2 ?_
                have eb : ("}" : Str) = ⟨#[125]⟩ := by decide +kernel
                have := PySem.StrLaws.found_one r 125
                rw [← eb] at this
                rw [this]
                exact decide_eq_true h
              | refine e1 (decide_eq_true (congrArg V.str (tl_inj ?_)))
                rw [t1, show tl "{" = [123] by decide +kernel]
                cases q : tl r with
                | nil => rw [q] at h0; cases h0
                | cons a t =>
                  rw [q] at h0
                  cases h0
                  rfl
          refine ⟨.ref L, rfl, .inl ⟨rfl, _, SqL.of gL⟩, .str _, rfl, by show 2 ≤ sizeLine; decide, fun p hp => ?_⟩
          have sp := same_upd (o := .tup [V.str "opt", V.str (cutS r none (some 1))]) hp
          refine ⟨L, vs, .ref p, rfl, rfl, sp _ _ gL, by omega, ?_⟩
          refine ⟨.str r, rfl, _, rfl, ?_⟩
          have tr : tl (cutS r (some 1) none) = (tl r).drop 1 := by
            rw [show (1 : Int) = ((1 : Nat) : Int) from rfl, cutS_from]
          have isf : IsF K (upd (upd H2 p (.tup [V.str "opt", V.str (cutS r none (some 1))])) L (.lst (vs ++ [.ref p]))) (.ref p) (false, cutS r none (some 1)) := ⟨p, rfl, upd_lst (sp _ _ gL) _ _ (SqT.of upd_same)⟩
          refine ⟨r, rfl, by omega, cutS r none (some 1), _, "?", 63, false, .ref p, rfl, upd_same, isf, (iF.mono (same_tup sp)).mono (fun b xs h => upd_lst (sp _ _ gL) b xs h), by decide +kernel, ?_, fun _ => ?_, fun c hc => ?_, ?_, ?_, fun b o e => (upd_ne (ne_of_none e hL)).trans ((sm.trans sp) _ _ e)⟩
          · rw [tr]
            exact cand_opt rne rfl t1 no
          · rw [t1, List.length_take]
            exact Nat.min_le_left _ _
          · rw [t1] at hc
            exact List.mem_of_mem_take hc
          · rw [tr, List.length_drop]
            omega
          · first
              | omega
              | (rw [t1, List.length_take]; omega)
      rintro σ H3 ⟨l, r', m, mc, b, v, rfl, gL3, isf, iF3, em, C, bl, lsub, rl, l60, s3⟩
      have fail : ∀ H', Same H H' → ¬ (Okl (tl l) ∧ (tl r').take 1 = [mc]) → Q .non H' := fun H' s h => kn _ s (nores r0ne (De.none rne (C.none h)))
      refine ⟨_, rfl, rfl, _, rfl, ite2 (fun e1 => fail _ s3 fun h => ?_) (fun e1 => ?_)⟩
      · have : l = "" := V.str.inj (of_decide_eq_true e1)
        exact h.1.1 (by rw [this]; rfl)
      have lne : tl l ≠ [] := fun q => e1 (decide_eq_true (congrArg V.str (tl_inj q)))
      have l128 : ∀ c ∈ tl l, c < 128 := fun c hc => x128 c (rsub c (by rw [De.eq]; exact List.mem_append_right _ (lsub c hc)))
      have lz : l.cps.size = (tl l).length := (Array.length_toList).symm
      have l60 : (tl l).length ≤ 60 := l60
      refine ⟨.str l, rfl, l, rfl, fun LB hLB => ?_⟩
      have sLB := same_upd (o := .lst []) hLB
      refine lc_it walk_str (fun i H' => H' LB = some (.lst (((((tl l).take i).filter fun c => !lowB c).map one).map V.str)) ∧ Same H3 H') ⟨upd_same, sLB⟩ (fun _ _ _ _ => trivial) ?_ ?_
      · rintro i v0 G G' hi ⟨gB, smB⟩ ⟨rfl, c, hc, rfl⟩
        have hc' : (tl l)[i]? = some c := by rw [Array.getElem?_toList]; exact hc
        have le := low_eq c
        have tk : ((tl l).take (i + 1)).filter (fun c => !lowB c) = ((tl l).take i).filter (fun c => !lowB c) ++ if (!lowB c) = true then [c] else [] := by
          rw [List.take_add_one, hc', List.filter_append]
          congr 1
          show List.filter _ [c] = _
          rw [List.filter_cons]
          rfl
        have fin1 : lowB c = false → ∀ G2 : Hp, G2 = G' → ∃ acc, G2 LB = some (.lst acc) ∧ acc.length < sizeLine ∧ (upd G2 LB (.lst (acc ++ [V.str ⟨#[c]⟩]))) LB = some (.lst (((((tl l).take (i + 1)).filter fun c => !lowB c).map one).map V.str)) ∧ Same H3 (upd G2 LB (.lst (acc ++ [V.str ⟨#[c]⟩]))) := by
          rintro q G2 rfl
          refine ⟨_, gB, ?_, ?_, fun b o e => (upd_ne (ne_of_none e hLB)).trans (smB _ _ e)⟩
          · rw [List.length_map, List.length_map, sizeLine_eq]
            have := List.length_filter_le (fun c => !lowB c) ((tl l).take i)
            rw [List.length_take] at this
            omega
          · rw [upd_same, tk, q, if_pos (by rfl), List.map_append, List.map_append]
            rfl
        have fin2 : lowB c = true → G' LB = some (.lst (((((tl l).take (i + 1)).filter fun c => !lowB c).map one).map V.str)) ∧ Same H3 G' := by
          intro q
          refine ⟨?_, smB⟩
          rw [tk, q, if_neg (by simp), List.append_nil]
          exact gB
        refine ⟨rfl, _, rfl, _, _, rfl, rfl, _, rfl, ?_⟩
        refine ite2 (fun e3 => ?_) (fun e3 => ?_)
        · rw [show (!decide (([c] : List Nat) < [97])) = true from e3, if_pos rfl] at le
          refine ⟨_, _, rfl, rfl, _, rfl, ite2 (fun e4 => ?_) (fun e4 => ?_)⟩
          · have q : lowB c = false := by
              have e5 : (!(!decide (([122] : List Nat) < [c]))) = true := e4
              rw [le] at e5
              simpa using e5
            exact ⟨_, rfl, fin1 q _ rfl⟩
          · have q : lowB c = true := by
              have e5 : ¬ (!(!decide (([122] : List Nat) < [c]))) = true := e4
              rw [le] at e5
              simpa using e5
            exact fin2 q
        · rw [if_neg (show ¬ (!decide (([c] : List Nat) < [97])) = true from e3)] at le
          exact ⟨_, rfl, iteT ⟨_, rfl, fin1 le.symm _ rfl⟩⟩
      rintro G ⟨gB, smB⟩
      rw [lz, List.take_length] at gB
      refine ⟨by show 0 ≤ sizeLine; decide, fun e1' he1 => ?_⟩
      have sE := same_upd (o := .lst []) he1
      have s4 := (s3.trans smB).trans sE
      refine ⟨strD (((tl l).filter fun c => !lowB c).map one), .list [], str_dp (SqL.of (sE _ _ gB)), .lst (SqL.of upd_same) .nil, str_shaped (ones_ok fun c hc => l128 c (List.mem_filter.mp hc).1), nil_shaped, _, rfl, ?_⟩
      rw [str_eqv_nil]
      have low : (((tl l).filter fun c => !lowB c).map one).isEmpty = true ↔ ∀ c ∈ tl l, 97 ≤ c ∧ c ≤ 122 := by
        rw [List.isEmpty_iff, List.map_eq_nil_iff, List.filter_eq_nil_iff]
        refine ⟨fun h c hc => ?_, fun h c hc => ?_⟩
        · have := h c hc
          have q : lowB c = true := by simpa using this
          unfold lowB at q
          rw [Bool.and_eq_true] at q
          exact ⟨of_decide_eq_true q.1, of_decide_eq_true q.2⟩
        · unfold lowB
          rw [decide_eq_true (h c hc).1, decide_eq_true (h c hc).2]
          simp
      refine ite2 (fun e2 => fail _ s4 fun h => ?_) (fun e2 => ?_)
      · rw [low.mpr h.1.2.1] at e2
        exact absurd e2 (by simp)
      have llow : ∀ c ∈ tl l, 97 ≤ c ∧ c ≤ 122 := low.mp (by simpa using e2)
      have sr' : r'.length = (tl r').length := sx r'
      have t2 : tl (cutS r' none (some 1)) = (tl r').take 1 := by
        show (r'.cps.toList.drop (HT.sIx r'.length 0 none)).take (HT.sIx r'.length r'.length (some ((1 : Nat) : Int)) - HT.sIx r'.length 0 none) = _
        rw [HT.sIx_none, HT.sIx_nat]
        show ((tl r').drop 0).take (min 1 r'.length - 0) = _
        rw [sr', List.drop_zero, Nat.sub_zero]
        by_cases q : 1 ≤ (tl r').length
        · rw [Nat.min_eq_left q]
        · have : tl r' = [] := List.length_eq_zero_iff.mp (by omega)
          rw [this]
          rfl
      refine ⟨.str r', rfl, _, rfl, r', rfl, by omega, .str m, rfl, rfl, _, rfl, ite2 (fun e3 => fail _ s4 fun h => ?_) (fun e3 => ?_)⟩
      · have : cutS r' none (some 1) = m := tl_inj (by rw [t2, em]; exact h.2)
        rw [this] at e3
        exact absurd e3 (by simp)
      have hm : (tl r').take 1 = [mc] := by
        have : cutS r' none (some 1) = m := Classical.byContradiction fun q => e3 (by rw [decide_eq_false (fun h => q (V.str.inj h))]; rfl)
        rw [← t2, this, em]
      have sl3 := sx l
      refine ⟨⟨_, rfl⟩, .str l, rfl, l, rfl, by unfold scanBound; omega, fun a2 ks ea nd mem le => ?_⟩
      have sa := same_upd (o := TX.SetTx P w a2 ks) ea
      refine ⟨a2, ks, rfl, upd_same, by omega, fun ys p pm so hp => ?_⟩
      have sp := same_upd (o := .lst (ys.map V.str)) hp
      obtain ⟨ej, h1⟩ := set_join nd mem pm so
      have yl := pm.length_eq
      refine ⟨"", p, ys, rfl, rfl, .inl (SqL.of upd_same), ?_, ?_⟩
      · rw [sum_ones _ h1]
        show ys.length + ys.length * 0 ≤ 16777216
        omega
      have s6 := s4.trans (sa.trans sp)
      have sG := (smB.trans sE).trans (sa.trans sp)
      refine ⟨.str l, rfl, rfl, _, rfl, ?_⟩
      rw [ej]
      refine ite2 (fun e4 => fail _ s6 fun h => ?_) (fun e4 => ?_)
      · rw [ascB_of h.1.2.2] at e4
        exact absurd e4 (by simp)
      have pw : (tl l).Pairwise (· < ·) := asc_pw1 (by simpa using e4)
      have G0 : GdF (b, l) := okl_gd ⟨lne, llow, pw⟩ bl
      have eqr := C.back hm
      have tr2 : tl (cutS r' (some 1) none) = (tl r').drop 1 := by
        rw [show (1 : Int) = ((1 : Nat) : Int) from rfl, cutS_from]
      refine ⟨.str r', rfl, _, rfl, r', rfl, by omega, cutS r' (some 1) none, vs ++ [v], fs ++ [(b, l)], _, _, ?_, rfl, sG _ _ gL3, ((iF3.snoc isf).mono (same_tup sG)), ?_, fun f hf => ?_, s6⟩
      · have := congrArg List.length eqr
        rw [List.length_append] at this
        have := List.length_pos_iff.mpr (wf_ne (b, l))
        rw [tr2]
        omega
      · rw [tr2]
        exact De.step eqr fun g r2 hg eg => (C.force g r2 hg eg).1
      · rcases List.mem_append.mp hf with q | q
        · exact gd f q
        · rw [List.mem_singleton.mp q]
          exact G0
    · have re : tl r = [] := by
        have : r = "" := Classical.byContradiction fun q => e (by rw [decide_eq_false (fun h => q (V.str.inj h))]; rfl)
        rw [this]
        rfl
      rw [re] at De
      have hfl := De.eq
      rw [List.append_nil] at hfl
      obtain ⟨b1, b2⟩ := flat_ls fs
      rw [← hfl] at b1 b2
      refine ⟨⟨_, rfl⟩, .ref L, rfl, L, rfl, ⟨_, SqL.of gL⟩, fun LC hLC => ?_⟩
      have sC := same_upd (o := .lst []) hLC
      refine lc_it (walk_list (xs := vs)) (fun i H' => H' LC = some (.lst ((fs.take i).map fun f => V.str f.2)) ∧ Same H2 H') ⟨upd_same, sC⟩ (fun _ _ _ ⟨_, sm2⟩ => SqL.of (sm2 _ _ gL)) ?_ ?_
      · rintro i y0 G G' hi ⟨gC, smC⟩ ⟨rfl, hx0⟩
        obtain ⟨f, hf, b, rfl, isf⟩ := iF.get i y0 hx0
        refine ⟨b, _, rfl, same_tup smC _ _ isf, rfl, _, _, rfl, _, _, rfl, rfl, rfl, yes ⟨_, rfl, _, gC, ?_, ?_, fun b o e => (upd_ne (ne_of_none e hLC)).trans (smC _ _ e)⟩⟩
        · rw [List.length_map, List.length_take]
          omega
        · rw [upd_same, List.take_add_one, hf, List.map_append]
          rfl
      rintro G ⟨gC, smC⟩
      rw [vl, List.take_length] at gC
      have e1 : (fs.map fun f => V.str f.2) = (fs.map fun f => f.2).map V.str := by rw [List.map_map]; rfl
      rw [e1] at gC
      have e0 : ("" : Str).length = 0 := rfl
      have tj : tl (Txt.join "" (fs.map fun f => f.2)) = (fs.map ls).flatten := by rw [tl_cat, List.map_map]; rfl
      have bd : ((fs.map fun f => f.2).map (·.length)).sum = ((fs.map ls).flatten).length := by
        rw [List.length_flatten, List.map_map, List.map_map]
        exact congrArg List.sum (List.map_congr_left fun f _ => sx _)
      refine ⟨"", LC, fs.map fun f => f.2, rfl, rfl, .inl (SqL.of gC), by rw [e0, Nat.mul_zero, bd]; omega, ?_⟩
      have tlen : (tl (Txt.join "" (fs.map fun f => f.2))).length ≤ 60 := by rw [tj]; omega
      generalize Txt.join "" (fs.map fun f => f.2) = big at tj tlen ⊢
      have sb := sx big
      refine ⟨big, rfl, by unfold scanBound; omega, fun a2 ks ha2 nd mem le => ?_⟩
      have s2 := same_upd (o := TX.SetTx P w a2 ks) ha2
      refine ⟨a2, ks, rfl, upd_same, by omega, fun ys p pm so hp => ?_⟩
      have s3 := same_upd (o := .lst (ys.map V.str)) hp
      obtain ⟨pw, mc, on⟩ := set_lets nd mem pm so
      have sA := smC.trans (s2.trans s3)
      have jl : (tl (Txt.join "" ys)).length = ys.length := by
        rw [tl_cat, List.length_flatten, List.map_map]
        have := sum_ones ys on
        rw [← this]
        exact congrArg List.sum (List.map_congr_left fun f _ => (sx _).symm)
      have mem2 : ∀ c, c ∈ tl (Txt.join "" ys) ↔ ∃ f ∈ fs, c ∈ ls f := fun c => by
        rw [mc, tj, List.mem_flatten]
        constructor
        · rintro ⟨l, hl, hc⟩
          obtain ⟨f, hf, rfl⟩ := List.mem_map.mp hl
          exact ⟨f, hf, hc⟩
        · rintro ⟨f, hf, hc⟩
          exact ⟨_, List.mem_map.mpr ⟨f, hf, rfl⟩, hc⟩
      have fs0 : tl r0 = [] → fs = [] := fun q => by
        cases fs with
        | nil => rfl
        | cons f t =>
          rw [q, List.map_cons, List.flatten_cons] at hfl
          exact absurd (List.append_eq_nil_iff.mp hfl.symm).1 (wf_ne f)
      have big3 : ¬ ys.length < 4 → ∀ gs, ¬ Res (tl x) gs := fun n4 gs hg => by
        rcases hx with ⟨e45, er⟩ | ⟨ne, rfl⟩
        · have := fs0 er
          subst this
          refine n4 ?_
          rw [← jl]
          cases q : tl (Txt.join "" ys) with
          | nil => decide
          | cons c t =>
            obtain ⟨f, hf, _⟩ := (mem2 c).mp (by rw [q]; exact List.mem_cons_self)
            cases hf
        · rcases hg with ⟨q, _⟩ | ⟨_, G⟩
          · exact ne q
          · have := De.done G
            subst this
            obtain ⟨_, _, _, z, zp, z3, zm⟩ := G
            have := nodup_len _ z (pw.imp fun h => Nat.ne_of_lt h) fun c hc => (zm c).mpr ((mem2 c).mp hc)
            omega
      refine ⟨.str x, rfl, rfl, _, rfl, ite2 (fun e1 => ⟨.ref p, rfl, p, _, rfl, .inl (SqL.of upd_same), _, _, rfl, rfl, _, rfl, ite2 (fun e2 => ?_) (fun e2 => ?_)⟩) (fun e1 => ?_)⟩
      · refine ⟨.ref L, rfl, L, vs, rfl, .inl ⟨SqL.of (sA _ _ gL), fun q hq => ?_⟩⟩
        have sq := same_upd (o := .tup vs) hq
        refine kq _ (.ref q) fs ((sm.trans sA).trans sq) ⟨q, vs, rfl, SqT.of upd_same, iF.mono (same_tup (sA.trans sq))⟩ ?_
        rcases hx with ⟨e45, er⟩ | ⟨ne, rfl⟩
        · exact .inl ⟨e45, fs0 er⟩
        · refine .inr ⟨ne, hfl, fun q0 => ?_, gd, _, pw, ?_, mem2⟩
          · rw [q0] at hfl
            have : r0 = "" := tl_inj hfl
            rw [this] at e1
            exact absurd e1 (by decide)
          · rw [jl]
            have := of_decide_eq_true e2
            rw [List.length_map] at this
            omega
      · refine kn _ (sm.trans sA) (big3 fun q => e2 (decide_eq_true ?_))
        rw [List.length_map]
        omega
      · have ex : x = "" := Classical.byContradiction fun q => e1 (by rw [decide_eq_false (fun h => q (V.str.inj h))]; rfl)
        refine iteF (kn _ (sm.trans sA) fun gs hg => ?_)
        rcases hx with ⟨e45, er⟩ | ⟨ne, rfl⟩
        · rw [ex] at e45
          exact absurd e45 (by decide +kernel)
        · have t0 : tl r0 = [] := by rw [ex]; rfl
          rcases hg with ⟨q, _⟩ | ⟨_, G⟩
          · exact ne q
          · have h1 := fs0 t0
            have h2 := De.done G
            exact G.2.1 (h2.trans h1)
end
end DW
/-! `_law_parsed` -/
namespace DW
open PySem PySem.Spec PyProof.Rows L2 TL
set_option autoImplicit false
structure DfPd (P : Program) (K : PySem.W.Frag) (mg : Str → Option Value) where
  M : EX.DfE P K mg "InvalidText" "line" EX.MsgOk
  R : EX.DfE P K mg "InvalidProduct" "index" EX.MsgOk
  B : EX.DfE0 K mg "DownwordsError"
  e1 : PySem.W.exmOne K (.ref M.C) (.ref M.C) = some true
  k1 : PySem.W.kitOne K (.ref M.C) (.ref B.C) = some true
  k2 : PySem.W.kitOne K (.ref M.C) (.ref R.C) = some false
def spPd (K : PySem.W.Frag) : Sp := fun vs H Q _ => ∃ v : V, vs = [v] ∧
  ((NoS K H v ∧ ∀ H', Same H H' → Q (.bl true) H') ∨
   ∃ (x : Str), v = .str x ∧ (tl x).length ≤ 60 ∧ (∀ H' r fs, Same H H' → IsP K H' r fs → Res (tl x) fs → Q r H') ∧ (∀ H', Same H H' → (∀ gs, ¬ Res (tl x) gs) → Q (.bl true) H'))
section
variable {P : Program} {w : World} {K : PySem.W.Frag} {mg : Str → Option Value} {base : Heap}
theorem scPd : FnScope ["_law_text", "e"] ["_law_text"] (defScope sLParsed) := ⟨rfl, rfl, rfl, by decide +kernel, rfl, by decide +kernel, by decide +kernel⟩
theorem ok_pd (D : Df K mg "_law_parsed" sLParsed ["_law_text"]) (Dp : Df K mg "parse_product" sParseProduct ["text"]) (X : DfPp K mg) (M : DfPd P K mg) (mi : mg "isinstance" = none) : FnOk P w K mg base CX0 6 D.f D.fd ["_law_text"] (spPd K) := by
  have Gp : FnOk P w K mg base (L2.CX P w) 5 Dp.f Dp.fd ["text"] (spPp K M.M.C) := ok_pp Dp X M.M
  refine D.F.ok scPd (fun vs H Q E h => ?_) (fun cdv A outer s H vs Q E hr h => ?_)
  · obtain ⟨v, rfl, _⟩ := h
    rfl
  · obtain ⟨v, rfl, h⟩ := h
    have hr5 : Room 5 _ := hr
    refine ⟨_, (pss_one (ps_try_as (i := 1) rfl rfl scPd.nd rfl rfl ⟨rfl, by decide, .inl M.M.g⟩ takes0 (fun W pn xe tk _ => (pss_one (ps_ret (pe_callS Gp hr5 (by rfl) Dp.g Dp.F.kp Dp.b (fun σ => passAt tk σ) (pa_cons (pv 0) pa_nil))))) (fun a oe cls d pn hz hf => (pss_one (ps_ret (pe_and (pe_cmpR op_eq (EX.pe_xfE hz hf (pv 1)) pe_int (nomark _)) (pe_and (pe_callB (EX.call_isX hz hf) (by rfl) mi (by decide +kernel) (pa_cons (pv 1) (pa_cons (pe_glob (v := V.ref M.B.C) (by rfl) M.B.g rfl) pa_nil))) (pe_one (pe_not (pe_callB (EX.call_isX hz hf) (by rfl) mi (by decide +kernel) (pa_cons (pv 1) (pa_cons (pe_glob (v := V.ref M.R.C) (by rfl) M.R.g rfl) pa_nil)))))))))))), ?_⟩
    have nl : ∀ (H' : Hp) (d : Addr), H' d = none → (upd H' d (.xd [(("line" : Str), .int 0)])) d = some (.xd [(("line" : Str), .int 0)]) := fun H' d _ => upd_same
    rcases h with ⟨ns, k⟩ | ⟨x, rfl, x60, kq, kn⟩
    · refine ⟨v, rfl, v, rfl, .inl ⟨ns, fun H' d s1 nd => ?_⟩⟩
      have sd := same_upd (o := .xd [(("line" : Str), V.int 0)]) nd
      refine ⟨true, M.e1, fun _ a ha => ?_, fun q => nomatch q⟩
      refine ⟨.ref a, rfl, M.M.C, rfl, rfl, M.M.T, M.M.no, d, _, .int 0, rfl, nl _ _ nd, rfl, rfl, true, rfl, iteT ?_⟩
      refine ⟨.ref a, rfl, M.M.C, .ref M.B.C, .ref M.B.C, true, rfl, rfl, M.M.T, (fun dd e => by cases e; exact ⟨_, nl _ _ nd⟩), (fun u ru => ru), M.k1, true, rfl, iteT ?_⟩
      exact ⟨.ref a, rfl, M.M.C, .ref M.R.C, .ref M.R.C, false, rfl, rfl, M.M.T, (fun dd e => by cases e; exact ⟨_, nl _ _ nd⟩), (fun u ru => ru), M.k2, false, rfl, k _ (s1.trans sd)⟩
    · refine ⟨.str x, rfl, .str x, rfl, .inr ⟨x, rfl, x60, kq, fun H' d s1 nd no => ?_⟩⟩
      have sd := same_upd (o := .xd [(("line" : Str), V.int 0)]) nd
      refine ⟨true, M.e1, fun _ a ha => ?_, fun q => nomatch q⟩
      refine ⟨.ref a, rfl, M.M.C, rfl, rfl, M.M.T, M.M.no, d, _, .int 0, rfl, nl _ _ nd, rfl, rfl, true, rfl, iteT ?_⟩
      refine ⟨.ref a, rfl, M.M.C, .ref M.B.C, .ref M.B.C, true, rfl, rfl, M.M.T, (fun dd e => by cases e; exact ⟨_, nl _ _ nd⟩), (fun u ru => ru), M.k1, true, rfl, iteT ?_⟩
      exact ⟨.ref a, rfl, M.M.C, .ref M.R.C, .ref M.R.C, false, rfl, rfl, M.M.T, (fun dd e => by cases e; exact ⟨_, nl _ _ nd⟩), (fun u ru => ru), M.k2, false, rfl, kn _ (s1.trans sd) no⟩
end
end DW
/-! products as data (beside read_factors) -/
namespace DW
open PySem PySem.Spec PyProof.Rows L2 TL
set_option autoImplicit false
theorem kd_inj {a b : Bool} (h : kd a = kd b) : a = b := by
  cases a <;> cases b <;> first | rfl | (exfalso; revert h; unfold kd; decide +kernel)
def fD (f : Fc) : PyData := .tuple [.str (kd f.1), .str f.2]
theorem IsF.dp {K : PySem.W.Frag} {H : Hp} {v : V} {f : Fc} (h : IsF K H v f) : Dp K H v (fD f) := by
  obtain ⟨a, rfl, q⟩ := h
  exact .tup q (.cons (.str _) (.cons (.str _) .nil))
def Low (f : Fc) : Prop := (∀ c ∈ ls f, c < 128) ∧ (ls f).length ≤ 1000
theorem strOk_low {x : Str} (h : ∀ c ∈ tl x, c < 128) (hl : (tl x).length ≤ 1000) : PyData.strOk x = true := by
  unfold PyData.strOk
  rw [← Array.all_toList, List.all_eq_true]
  exact fun c hc => decide_eq_true (by have := h c hc; omega)
theorem kd_ok (b : Bool) : PyData.strOk (kd b) = true := by
  cases b <;> (unfold kd; decide +kernel)
theorem fD_shaped {f : Fc} (h : Low f) : SeqAt.shaped (fD f) = true := by
  unfold SeqAt.shaped fD
  rw [Bool.and_eq_true]
  refine ⟨?_, decide_eq_true (by simp [PyData.depth, PyData.depthAll])⟩
  simp only [PyData.canLay0, PyData.canLayAll0, kd_ok, strOk_low h.1 h.2, Bool.and_self]
theorem fD_eqv (f g : Fc) : PyData.eqv (fD f) (fD g) = decide (f = g) := by
  unfold fD
  simp only [PyData.eqv, PyData.eqvAll, Bool.and_true]
  rw [Bool.eq_iff_iff, Bool.and_eq_true, decide_eq_true_eq, beq_iff_eq, beq_iff_eq]
  constructor
  · rintro ⟨e1, e2⟩
    obtain ⟨a, b⟩ := f
    obtain ⟨c, d⟩ := g
    have := kd_inj e1
    simp only at this e2
    rw [this, e2]
  · rintro rfl
    exact ⟨rfl, rfl⟩
def pD (fs : List Fc) : PyData := .tuple (fs.map fD)
theorem IsFs.dp {K : PySem.W.Frag} {H : Hp} : ∀ {vs : List V} {fs : List Fc}, IsFs K H vs fs → DpAll K H vs (fs.map fD)
  | _, _, .nil => .nil
  | _, _, .cons h r => .cons h.dp r.dp
theorem IsP.dp {K : PySem.W.Frag} {H : Hp} {v : V} {fs : List Fc} (h : IsP K H v fs) : Dp K H v (pD fs) := by
  obtain ⟨a, xs, rfl, q, r⟩ := h
  exact .tup q r.dp
theorem fok_len {z : Str} (al : Alph z) {f : Fc} (h : FOk z f) : (ls f).length ≤ 3 := Nat.le_trans h.2.1.length_le al.2.2.1
theorem fok_low {z : Str} (al : Alph z) {f : Fc} (h : FOk z f) : Low f := ⟨fun c hc => by
  have := al.2.2.2 c (h.2.1.subset hc)
  omega, Nat.le_trans (fok_len al h) (by decide)⟩
theorem lay_fs {z : Str} (al : Alph z) : ∀ fs : List Fc, (∀ f ∈ fs, FOk z f) → PyData.canLayAll0 (fs.map fD) = true ∧ PyData.depthAll (fs.map fD) ≤ 1
  | [], _ => ⟨rfl, by simp [PyData.depthAll]⟩
  | f :: fs, h => by
    obtain ⟨h1, h2⟩ := lay_fs al fs fun g hg => h g (List.mem_cons_of_mem _ hg)
    have hf := fD_shaped (fok_low al (h f List.mem_cons_self))
    unfold SeqAt.shaped at hf
    rw [Bool.and_eq_true] at hf
    have d1 : (fD f).depth ≤ 1 := by simp [fD, PyData.depth, PyData.depthAll]
    rw [List.map_cons]
    refine ⟨by simp only [PyData.canLayAll0, hf.1, h1, Bool.and_self], ?_⟩
    simp only [PyData.depthAll]
    omega
theorem fs_eqv : ∀ fs gs : List Fc, PyData.eqvAll (fs.map fD) (gs.map fD) = decide (fs = gs)
  | [], [] => rfl
  | [], _ :: _ => by simp [PyData.eqvAll]
  | _ :: _, [] => by simp [PyData.eqvAll]
  | f :: fs, g :: gs => by
    rw [List.map_cons, List.map_cons]
    simp only [PyData.eqvAll]
    rw [fD_eqv, fs_eqv fs gs, Bool.eq_iff_iff]
    simp
theorem pD_eqv (fs gs : List Fc) : PyData.eqv (pD fs) (pD gs) = decide (fs = gs) := by
  unfold pD
  simp only [PyData.eqv]
  exact fs_eqv fs gs
theorem pD_shaped {z : Str} (al : Alph z) {fs : List Fc} (h : ∀ f ∈ fs, FOk z f) : SeqAt.shaped (pD fs) = true := by
  obtain ⟨h1, h2⟩ := lay_fs al fs h
  unfold SeqAt.shaped pD
  rw [Bool.and_eq_true]
  refine ⟨by simp only [PyData.canLay0, h1], decide_eq_true ?_⟩
  simp only [PyData.depth]
  omega
end DW
/-! a text is read in one way; the text of a product -/
namespace DW
open PySem PySem.Spec PyProof.Rows L2 TL
set_option autoImplicit false
theorem gd_inj {f g : Fc} (hf : GdF f) (hg : GdF g) {a b : List Nat} (e : wf f ++ a = wf g ++ b) : g = f ∧ a = b := by
  have h : g = f := by
    cases k : f.1 with
    | true =>
      obtain ⟨h0, _, le, hi⟩ := star_front hf k rfl
      refine ((cand_star h0 hi le k ?_).force g b hg e).1
      rw [wf_star k, show 123 :: (ls f ++ [125, 42]) ++ a = (123 :: ls f) ++ ([125, 42] ++ a) by simp, List.take_append_of_le_length (by simp; omega), List.take_of_length_le (by simp; omega)]
      rfl
    | false =>
      obtain ⟨c, hc, c1, c2, eq⟩ := opt_front hf k rfl
      refine ((cand_opt (r := wf f ++ a) (by rw [eq]; simp) k ?_ fun q => ?_).force g b hg e).1
      · rw [eq, hc]
        rfl
      · rw [eq] at q
        have : c = 123 := Option.some.inj q
        omega
  refine ⟨h, ?_⟩
  subst h
  exact List.append_cancel_left e
theorem wfs_inj : ∀ {fs gs : List Fc}, (∀ f ∈ fs, GdF f) → (∀ g ∈ gs, GdF g) → (fs.map wf).flatten = (gs.map wf).flatten → fs = gs
  | [], [], _, _, _ => rfl
  | [], g :: gs, _, _, e => by
    rw [List.map_cons, List.flatten_cons] at e
    exact absurd (List.append_eq_nil_iff.mp e.symm).1 (wf_ne g)
  | f :: fs, [], _, _, e => by
    rw [List.map_cons, List.flatten_cons] at e
    exact absurd (List.append_eq_nil_iff.mp e).1 (wf_ne f)
  | f :: fs, g :: gs, hf, hg, e => by
    rw [List.map_cons, List.flatten_cons, List.map_cons, List.flatten_cons] at e
    obtain ⟨rfl, e2⟩ := gd_inj (hf f List.mem_cons_self) (hg g List.mem_cons_self) e
    rw [wfs_inj (fun q h => hf q (List.mem_cons_of_mem _ h)) (fun q h => hg q (List.mem_cons_of_mem _ h)) e2]
theorem Res.uniq {u : List Nat} {fs gs : List Fc} (h : Res u fs) (g : Res u gs) : fs = gs := by
  rcases h with ⟨e, rfl⟩ | ⟨ne, h⟩ <;> rcases g with ⟨e', rfl⟩ | ⟨ne', g⟩
  · rfl
  · exact absurd e ne'
  · exact absurd e' ne
  · exact wfs_inj h.2.2.1 g.2.2.1 (h.1.symm.trans g.1)
/-- an alphabet of what was read -/
theorem sub_of_asc : ∀ {l z : List Nat}, l.Pairwise (· < ·) → z.Pairwise (· < ·) → (∀ c ∈ l, c ∈ z) → l.Sublist z
  | [], z, _, _, _ => List.nil_sublist z
  | a :: l, [], _, _, h => by
    have := h a List.mem_cons_self
    cases this
  | a :: l, b :: z, p, q, h => by
    obtain ⟨pa, p'⟩ := List.pairwise_cons.mp p
    obtain ⟨qb, q'⟩ := List.pairwise_cons.mp q
    rcases List.mem_cons.mp (h a List.mem_cons_self) with e | e
    · subst e
      refine (sub_of_asc p' q' fun c hc => ?_).cons_cons a
      rcases List.mem_cons.mp (h c (List.mem_cons_of_mem _ hc)) with e | e
      · have := pa c hc
        omega
      · exact e
    · refine (sub_of_asc p q' fun c hc => ?_).cons b
      rcases List.mem_cons.mp hc with e2 | hc'
      · rw [e2]; exact e
      · rcases List.mem_cons.mp (h c hc) with e2 | e2
        · have := pa c hc'
          have := qb a e
          omega
        · exact e2
theorem Res.alph {u : List Nat} {fs : List Fc} (h : Res u fs) : ∃ z : Str, Alph z ∧ ∀ f ∈ fs, FOk z f := by
  rcases h with ⟨_, rfl⟩ | ⟨_, _, ne, gd, z, zp, z3, zm⟩
  · exact ⟨"a", by unfold Alph; decide +kernel, fun f hf => (nomatch hf)⟩
  · have tz : tl (⟨z.toArray⟩ : Str) = z := rfl
    refine ⟨⟨z.toArray⟩, ⟨by rw [tz]; exact zp, ?_, by rw [tz]; exact z3, fun c hc => ?_⟩, fun f hf => ⟨(gd f hf).1, ?_, (gd f hf).2.2.2⟩⟩
    · rw [tz]
      cases fs with
      | nil => exact absurd rfl ne
      | cons f r =>
        cases e : ls f with
        | nil => exact absurd e (gd f List.mem_cons_self).1
        | cons a t => exact List.length_pos_of_mem ((zm a).mpr ⟨f, List.mem_cons_self, by rw [e]; exact List.mem_cons_self⟩)
    · rw [tz] at hc
      obtain ⟨f, hf, h⟩ := (zm c).mp hc
      exact (gd f hf).2.1 c h
    · rw [tz]
      exact sub_of_asc (gd f hf).2.2.1 zp fun c hc => (zm c).mpr ⟨f, hf, hc⟩
theorem Res.shaped {u : List Nat} {fs : List Fc} (h : Res u fs) : SeqAt.shaped (pD fs) = true := by
  obtain ⟨z, al, ok⟩ := h.alph
  exact pD_shaped al ok
theorem pform_tl {fs : List Fc} (ne : fs ≠ []) : tl (pform fs) = (fs.map wf).flatten := by
  unfold pform
  rw [if_neg ne, tl_cat, List.map_map]
  congr 1
  exact List.map_congr_left fun f _ => fform_wf f
theorem res_pform {z : Str} (al : Alph z) {fs : List Fc} (ok : ∀ f ∈ fs, FOk z f) : Res (tl (pform fs)) fs := by
  by_cases ne : fs = []
  · subst ne
    exact .inl ⟨by show tl ("-" : Str) = _; decide +kernel, rfl⟩
  · have gd : ∀ f ∈ fs, GdF f := fun f hf => ⟨(ok f hf).1, fun c hc => al.2.2.2 c ((ok f hf).2.1.subset hc), al.1.sublist (ok f hf).2.1, (ok f hf).2.2⟩
    refine .inr ⟨fun q => ?_, pform_tl ne, ne, gd, (tl z).filter fun c => decide (∃ f ∈ fs, c ∈ ls f), al.1.filter _, Nat.le_trans (List.length_filter_le _ _) al.2.2.1, fun c => ?_⟩
    · rw [pform_tl ne] at q
      cases fs with
      | nil => exact ne rfl
      | cons f r =>
        rw [List.map_cons, List.flatten_cons] at q
        cases k : f.1 with
        | true =>
          rw [wf_star k] at q
          have := (List.cons.inj q).1
          omega
        | false =>
          obtain ⟨c, _, c1, _, e⟩ := opt_front (gd f List.mem_cons_self) k (r' := (r.map wf).flatten) rfl
          rw [e] at q
          have := (List.cons.inj q).1
          omega
    · rw [List.mem_filter, decide_eq_true_eq]
      exact ⟨fun h => h.2, fun h => by
        obtain ⟨f, hf, hc⟩ := h
        exact ⟨(ok f hf).2.1.subset hc, f, hf, hc⟩⟩
theorem wf_ok {z : Str} (al : Alph z) {f : Fc} (h : FOk z f) : (wf f).length ≤ 6 ∧ ∀ c ∈ wf f, c < 128 := by
  have l := fok_len al h
  have lo := fok_low al h
  cases k : f.1 with
  | true =>
    rw [wf_star k]
    refine ⟨by rw [List.length_cons, List.length_append]; show _ + 2 + 1 ≤ 6; omega, fun c hc => ?_⟩
    rcases List.mem_cons.mp hc with e | e
    · rw [e]; decide
    · rcases List.mem_append.mp e with e | e
      · exact lo.1 c e
      · simp only [List.mem_cons, List.not_mem_nil, or_false] at e
        rcases e with e | e <;> (rw [e]; decide)
  | false =>
    rw [wf_opt k]
    refine ⟨by rw [List.length_append]; show _ + 1 ≤ 6; omega, fun c hc => ?_⟩
    rcases List.mem_append.mp hc with e | e
    · exact lo.1 c e
    · rw [List.mem_singleton.mp e]; decide
theorem pform_wd {z : Str} (al : Alph z) {fs : List Fc} (ok : ∀ f ∈ fs, FOk z f) (l : fs.length ≤ 8) : Wd 48 (pform fs) := by
  by_cases ne : fs = []
  · subst ne
    show Wd 48 "-"
    unfold Wd
    decide +kernel
  · unfold Wd
    rw [pform_tl ne]
    have h : ∀ gs : List Fc, (∀ f ∈ gs, FOk z f) → ((gs.map wf).flatten).length ≤ 6 * gs.length ∧ ∀ c ∈ (gs.map wf).flatten, c < 128 := by
      intro gs
      induction gs with
      | nil => exact fun _ => ⟨Nat.le_refl _, fun c hc => (nomatch hc)⟩
      | cons g gs ih =>
        intro h
        obtain ⟨i1, i2⟩ := ih fun f hf => h f (List.mem_cons_of_mem _ hf)
        obtain ⟨w1, w2⟩ := wf_ok al (h g List.mem_cons_self)
        rw [List.map_cons, List.flatten_cons]
        refine ⟨by rw [List.length_append, List.length_cons]; omega, fun c hc => ?_⟩
        rcases List.mem_append.mp hc with e | e
        · exact w2 c e
        · exact i2 c e
    obtain ⟨h1, h2⟩ := h fs ok
    exact ⟨by omega, h2⟩
end DW
/-! `_law_written` of k06 -/
namespace DW
open PySem PySem.Spec PyProof.Rows L2 TL
set_option autoImplicit false
def spWrit (K : PySem.W.Frag) : Sp := fun vs H Q _ => ∃ (v : V) (fs : List Fc), vs = [v] ∧ IsP K H v fs ∧ (∀ f ∈ fs, (ls f).length ≤ 3) ∧ fs.length ≤ 1000 ∧ SeqAt.shaped (pD fs) = true ∧ ∀ H', Same H H' → Q (.str (pform fs)) H'
def ftl (fs : List Fc) : List Nat := (fs.map fun f => tl (fform f)).flatten
theorem fform_tl (f : Fc) : tl (fform f) = if f.1 = true then 123 :: (tl f.2 ++ [125, 42]) else tl f.2 ++ [63] := fform_wf f
theorem ftl_len : ∀ (fs : List Fc), (∀ f ∈ fs, (ls f).length ≤ 3) → (ftl fs).length ≤ 6 * fs.length
  | [], _ => Nat.le_refl _
  | f :: r, h => by
    have ih := ftl_len r fun g hg => h g (List.mem_cons_of_mem _ hg)
    have h1 : (tl f.2).length ≤ 3 := h f List.mem_cons_self
    have e : (tl (fform f)).length ≤ 6 := by
      rw [fform_tl]
      by_cases c : f.1 = true
      · rw [if_pos c, List.length_cons, List.length_append]
        show _ + 2 + 1 ≤ 6
        omega
      · rw [if_neg c, List.length_append]
        show _ + 1 ≤ 6
        omega
    have : (ftl (f :: r)).length = (tl (fform f)).length + (ftl r).length := by
      unfold ftl
      rw [List.map_cons, List.flatten_cons, List.length_append]
    rw [this, List.length_cons]
    omega
theorem ftl_snoc (fs : List Fc) {i : Nat} {f : Fc} (h : fs[i]? = some f) : ftl (fs.take (i + 1)) = ftl (fs.take i) ++ tl (fform f) := by
  unfold ftl
  rw [List.take_add_one, h, List.map_append, List.flatten_append]
  simp
theorem ftl_ne {f : Fc} {fs : List Fc} : ftl (f :: fs) ≠ [] := fun q => by
  unfold ftl at q
  rw [List.map_cons, List.flatten_cons] at q
  have q := (List.append_eq_nil_iff.mp q).1
  rw [fform_tl] at q
  by_cases c : f.1 = true
  · rw [if_pos c] at q
    cases q
  · rw [if_neg c] at q
    exact absurd (List.append_eq_nil_iff.mp q).2 (by simp)
section
variable {P : Program} {w : World} {K : PySem.W.Frag} {mg : Str → Option Value} {base : Heap}
theorem scWrit : FnScope ["_law_product_here", "_law_found", "_law_kind", "_law_letters"] ["_law_product_here"] (defScope sLWritten) := ⟨rfl, rfl, rfl, by decide +kernel, rfl, by decide +kernel, by decide +kernel⟩
theorem ok_writ (D : Df K mg "_law_written" sLWritten ["_law_product_here"]) : FnOk P w K mg base CX0 1 D.f D.fd ["_law_product_here"] (spWrit K) := by
  refine D.F.ok scWrit (fun vs H Q E h => ?_) (fun cdv A outer s H vs Q E hr h => ?_)
  · obtain ⟨v, fs, rfl, _⟩ := h
    rfl
  · obtain ⟨v, fs, rfl, ⟨a, xs, rfl, ha, iF⟩, hl, hn, shp, k⟩ := h
    have sz : ∀ y : Str, y.length = (tl y).length := fun y => (Array.length_toList).symm
    refine ⟨_, PSs.nox (pss_cons (ps_set (i := 1) scWrit.nd rfl (.inl rfl) pe_str) (pss_cons (ps_for PassesOwn.never rfl (pi_tup (pv 0)) (pg_tup rfl (pgs_cons (pg_name (i := 2) scWrit.nd rfl (.inl rfl)) (pgs_cons (pg_name (i := 3) scWrit.nd rfl (.inl rfl)) pgs_nil))) (pss_one (ps_set (i := 1) scWrit.nd rfl (.inl rfl) (pe_op op_add_str (pv 1) (pe_ifExp (pt_cmpR op_eq (pv 2) pe_str (nomark _)) (pe_op op_add_str (pv 3) pe_str) (pe_op op_add_str (pe_op op_add_str pe_str (pv 3)) pe_str)))))) (pss_one (ps_ret (pe_ifExp (pt_cmpR (op_neD hr.units) (pv 0) (pe_tup pa_nil) (nomark _)) (pv 1) pe_str))))), ?_⟩
    refine ⟨.ref a, rfl, a, rfl, ⟨xs, ha⟩, for_it (walk_tup (xs := xs)) (fun i σ H' => ∃ (r : Str) (y2 y3 : Option V), σ = [some (.ref a), some (.str r), y2, y3] ∧ tl r = ftl (fs.take i) ∧ Same H H')
      ⟨_, _, _, rfl, rfl, Same.refl _⟩ (fun _ _ H' _ ⟨_, _, _, _, _, sm⟩ => same_tup sm _ _ ha) ?_ ?_⟩
    · rintro i x σ G G' hi ⟨r, y2, y3, rfl, hr', sm⟩ ⟨rfl, hx⟩
      obtain ⟨f, hf, b, rfl, hb⟩ := iF.get i x hx
      have fm : f ∈ fs := List.mem_of_getElem? hf
      have hil := (List.getElem?_eq_some_iff.mp hf).1
      have rl : r.length ≤ 6 * fs.length := by
        rw [sz, hr']
        have := ftl_len (fs.take i) fun g hg => hl g (List.mem_of_mem_take hg)
        rw [List.length_take] at this
        omega
      have fl : f.2.length ≤ 3 := by rw [sz]; exact hl f fm
      have ff : (fform f).length ≤ 1003 := fform_len (Nat.le_trans (hl f fm) (by decide))
      refine ⟨b, _, rfl, same_tup sm _ _ hb, rfl, _, _, rfl, _, _, rfl, rfl, ?_⟩
      refine ⟨.str r, rfl, .str (kd f.1), rfl, rfl, _, rfl, ?_⟩
      rw [kd_opt]
      refine ite2 (fun e => ?_) (fun e => ?_)
      · have e' : ¬ f.1 = true := by simpa using e
        have ef : fform f = f.2 ++ ("?" : Str) := by unfold fform; rw [if_neg e']
        rw [ef] at ff
        refine ⟨.str f.2, rfl, f.2, "?", rfl, rfl, by rw [sizeLine_eq]; show f.2.length + 1 ≤ _; omega, r, _, rfl, rfl, by rw [sizeLine_eq]; omega, _, _, _, rfl, ?_, sm⟩
        rw [ftl_snoc fs hf, ef, ← hr', tl_app2]
      · have e' : f.1 = true := by simpa using e
        have ef : fform f = ("{" : Str) ++ f.2 ++ ("}*" : Str) := by unfold fform; rw [if_pos e']
        have e2 : (("{" : Str) ++ f.2).length ≤ 10 := by
          rw [sz, tl_app2, List.length_append, ← sz f.2]
          show 1 + _ ≤ 10
          omega
        rw [ef] at ff
        refine ⟨.str f.2, rfl, "{", f.2, rfl, rfl, by rw [sizeLine_eq]; show 1 + f.2.length ≤ _; omega, _, "}*", rfl, rfl, by rw [sizeLine_eq]; show _ + 2 ≤ _; omega, r, _, rfl, rfl, by rw [sizeLine_eq]; omega, _, _, _, rfl, ?_, sm⟩
        rw [ftl_snoc fs hf, ef, ← hr', tl_app2]
    · rintro σ H' ⟨r, y2, y3, rfl, hr', sm⟩
      rw [iF.len, List.take_length] at hr'
      have ha' := same_tup sm _ _ ha
      refine ⟨.ref a, rfl, Nat.zero_le _, fun p hp => ?_⟩
      have sp := same_upd (o := .tup []) hp
      have dn : Dp K (upd H' p (.tup [])) (.ref p) (pD []) := .tup (SqT.of upd_same) .nil
      refine ⟨pD fs, pD [], (IsP.mono ⟨a, xs, rfl, ha, iF⟩ (same_tup (sm.trans sp))).dp, dn, shp, by decide +kernel, _, rfl, ?_⟩
      rw [pD_eqv]
      by_cases ne : fs = []
      · rw [decide_eq_true ne]
        refine iteF ?_
        have := k _ (sm.trans sp)
        rw [ne] at this
        exact this
      · rw [decide_eq_false ne]
        refine iteT ⟨.str r, rfl, ?_⟩
        have er : r = pform fs := tl_inj (by rw [hr']; unfold ftl pform; rw [if_neg ne, tl_cat, List.map_map]; rfl)
        rw [er]
        exact k _ (sm.trans sp)
end
end DW
namespace DW
open PySem PySem.Spec PyProof.Rows L2 TL
def clsBody (s : Stmt) : List Stmt := match s with
  | .ClassDef _ _ _ b _ _ _ _ _ _ _ => b
  | _ => []
def clsS (i j : Nat) : Stmt := (clsBody (topS i)).getD j (.Pass ⟨0, 0, 0, 0⟩)
end DW
/-! k06: the law -/
namespace DW
open PySem PySem.Spec PyProof.Rows L2 TL
set_option autoImplicit false
theorem cutS_to (x : Str) (i : Nat) : tl (cutS x none (some (i : Int))) = (tl x).take i := by
  show (x.cps.toList.drop (HT.sIx x.length 0 none)).take (HT.sIx x.length x.length (some (i : Int)) - HT.sIx x.length 0 none) = _
  rw [HT.sIx_none, HT.sIx_nat]
  have e : x.length = x.cps.toList.length := (Array.length_toList).symm
  rw [e]
  by_cases h : i ≤ x.cps.toList.length
  · rw [Nat.min_eq_left h]; rfl
  · rw [Nat.min_eq_right (by omega), List.take_of_length_le (show (tl x).length ≤ i from by show x.cps.toList.length ≤ i; omega)]
    show x.cps.toList.take (x.cps.toList.length - 0) = _
    rw [Nat.sub_zero, List.take_length]
def marks : List V := [.str "a", .str "b", .str "?", .str "*", .str "{", .str "}", .str "-", .str "", .str " ", .str "A", .str "y?"]
theorem marks_ok : ∀ y ∈ marks, ∃ m : Str, y = .str m ∧ Wd 2 m := by
  intro y hy
  unfold marks at hy
  simp only [List.mem_cons, List.not_mem_nil, or_false] at hy
  rcases hy with e | e | e | e | e | e | e | e | e | e | e <;> exact ⟨_, e, by unfold Wd; decide +kernel⟩
section
variable {P : Program} {w : World} {K : PySem.W.Frag} {mg : Str → Option Value} {base : Heap}
structure Ds (P : Program) (K : PySem.W.Frag) (mg : Str → Option Value) where
  p_is_ascending : Df K mg "is_ascending" sIsAscending ["letters"]
  p_is_alphabet : Df K mg "is_alphabet" sIsAlphabet ["thing"]
  p_is_word : Df K mg "is_word" sIsWord ["alphabet", "thing"]
  p_is_factor : Df K mg "is_factor" sIsFactor ["alphabet", "thing"]
  p_is_product : Df K mg "is_product" sIsProduct ["alphabet", "thing"]
  p_format_factor : Df K mg "format_factor" sFormatFactor ["factor"]
  p_format_product : Df K mg "format_product" sFormatProduct ["product"]
  p_read_factor : Df K mg "read_factor" sReadFactor ["text", "start"]
  p_read_factors : Df K mg "read_factors" sReadFactors ["text"]
  p_letters_of : Df K mg "letters_of" sLettersOf ["factors"]
  p_parse_product : Df K mg "parse_product" sParseProduct ["text"]
  begin : Df K mg "_law_begin" sBegin ["_law_script"]
  draw : Df K mg "_law_draw" sDraw ["_law_tape", "_law_many"]
  pick : Df K mg "_law_pick" sPick ["_law_tape", "_law_items"]
  alphabet : Df K mg "_law_alphabet" sAlpha ["_law_tape"]
  factor : Df K mg "_law_factor" sFactor ["_law_tape", "_law_alphabet_here"]
  product : Df K mg "_law_product" sProduct ["_law_tape", "_law_alphabet_here", "_law_longest"]
  written : Df K mg "_law_written" sLWritten ["_law_product_here"]
  read : Df K mg "_law_read" sLRead ["_law_text"]
  parsed : Df K mg "_law_parsed" sLParsed ["_law_text"]
  B : Bl mg
  b_all : mg "all" = none
  b_zip : mg "zip" = none
  b_isinstance : mg "isinstance" = none
  b_str : mg "str" = none
  b_tuple : mg "tuple" = none
  c_MOST_LETTERS : ∃ t, mg "MOST_LETTERS" = some (.int 3 t)
  c_EMPTY_FORM : ∃ t, mg "EMPTY_FORM" = some (.str "-" t)
  e_DownwordsError : EX.DfE0 K mg "DownwordsError"
  e_InvalidProduct : EX.DfE P K mg "InvalidProduct" "index" EX.MsgOk
  e_InvalidText : EX.DfE P K mg "InvalidText" "line" EX.MsgOk
  k_InvalidText_DownwordsError : PySem.W.kitOne K (.ref e_InvalidText.C) (.ref e_DownwordsError.C) = some true
  k_InvalidText_InvalidProduct : PySem.W.kitOne K (.ref e_InvalidText.C) (.ref e_InvalidProduct.C) = some false
  m_InvalidText_InvalidText : PySem.W.exmOne K (.ref e_InvalidText.C) (.ref e_InvalidText.C) = some true
def spLaw (K : PySem.W.Frag) : Sp := fun vs H Q _ => ∃ (a : Addr) (ns : List Int), vs = [.ref a] ∧ SqL K H a (ns.map V.int) ∧ ∀ H', Q (.bl true) H'
theorem scLaw : FnScope ["_law_script", "_law_tape", "_law_turn", "_law_product_here", "_law_text", "_law_k", "_law_place", "_law_mark", "_law_bent", "_law_due", "_law_thing"] ["_law_script"] (defScope sLaw) := ⟨rfl, rfl, rfl, by decide +kernel, rfl, by decide +kernel, by decide +kernel⟩
theorem ok_law (D : Df K mg "law" sLaw ["_law_script"]) (S : Ds P K mg) : FnOk P w K mg base CX0 7 D.f D.fd ["_law_script"] (spLaw K) := by
  have Gb : FnOk P w K mg base CX0 1 S.begin.f S.begin.fd ["_law_script"] (spBegin K) := ok_begin S.begin
  have Gd : FnOk P w K mg base CX0 1 S.draw.f S.draw.fd ["_law_tape", "_law_many"] spDraw := ok_draw S.draw S.B.len
  have Gk : FnOk P w K mg base CX0 2 S.pick.f S.pick.fd ["_law_tape", "_law_items"] (spPick K) := ok_pick S.pick S.draw S.B.len
  have Ga : FnOk P w K mg base CX0 3 S.alphabet.f S.alphabet.fd ["_law_tape"] spAlpha := ok_alpha S.alphabet S.draw S.pick S.B
  have Gr : FnOk P w K mg base CX0 4 S.product.f S.product.fd ["_law_tape", "_law_alphabet_here", "_law_longest"] (spProduct K) := ok_product S.product S.factor S.draw S.pick S.B S.b_tuple
  have Gf : FnOk P w K mg base CX0 2 S.p_format_product.f S.p_format_product.fd ["product"] (spFp K) := ok_fp S.p_format_product S.p_format_factor S.B.len S.c_EMPTY_FORM
  have Gw : FnOk P w K mg base CX0 1 S.written.f S.written.fd ["_law_product_here"] (spWrit K) := ok_writ S.written
  have Gx : FnOk P w K mg base CX0 1 S.read.f S.read.fd ["_law_text"] (spRd K) := ok_rd S.read S.B S.b_tuple
  have Gp : FnOk P w K mg base CX0 6 S.parsed.f S.parsed.fd ["_law_text"] (spPd K) := ok_pd S.parsed S.p_parse_product ⟨S.p_read_factors, S.p_read_factor, S.p_format_factor, S.p_letters_of, S.p_is_alphabet, ⟨S.p_is_product, S.p_is_factor, S.p_is_word, S.p_is_ascending, S.b_all, S.b_zip, S.b_isinstance, S.b_str, S.b_tuple, S.B.len⟩, S.B, S.c_EMPTY_FORM, S.c_MOST_LETTERS⟩ ⟨S.e_InvalidText, S.e_InvalidProduct, S.e_DownwordsError, S.m_InvalidText_InvalidText, S.k_InvalidText_DownwordsError, S.k_InvalidText_InvalidProduct⟩ S.b_isinstance
  refine D.F.ok scLaw (fun vs H Q E h => ?_) (fun cdv A outer s H vs Q E hr h => ?_)
  · obtain ⟨a, ns, rfl, _⟩ := h
    rfl
  · obtain ⟨a, ns, rfl, hS, k⟩ := h
    have hr1 : Room 1 _ := hr.mono (by decide)
    have hr2 : Room 2 _ := hr.mono (by decide)
    have hr3 : Room 3 _ := hr.mono (by decide)
    have hr4 : Room 4 _ := hr.mono (by decide)
    have hr6 : Room 6 _ := hr
    have sz : ∀ y : Str, y.length = (tl y).length := fun y => (Array.length_toList).symm
    have sl := sizeLine_eq
    refine ⟨_, PSs.nox (pss_cons (ps_set (i := 1) scLaw.nd rfl (.inl rfl) (pe_call Gb hr1 (by rfl) S.begin.g S.begin.F.kp S.begin.b .nil pass0 (pa_cons (pv 0) pa_nil))) (pss_cons (ps_for PassesOwn.never rfl (pi_range1 rfl S.B.range (pa_cons pe_int pa_nil)) (pg_name (i := 2) scLaw.nd rfl (.inl rfl)) (pss_cons (ps_set (i := 3) scLaw.nd rfl (.inl rfl) (pe_call Gr hr4 (by rfl) S.product.g S.product.F.kp S.product.b .nil pass0 (pa_cons (pv 1) (pa_cons (pe_call Ga hr3 (by rfl) S.alphabet.g S.alphabet.F.kp S.alphabet.b .nil pass0 (pa_cons (pv 1) pa_nil)) (pa_cons pe_int pa_nil))))) (pss_cons (ps_set (i := 4) scLaw.nd rfl (.inl rfl) (pe_call Gf hr2 (by rfl) S.p_format_product.g S.p_format_product.F.kp S.p_format_product.b .nil pass0 (pa_cons (pv 3) pa_nil))) (pss_cons (ps_if (pw_or (pt_cmpR op_ne (pv 4) (pe_call Gw hr1 (by rfl) S.written.g S.written.F.kp S.written.b .nil pass0 (pa_cons (pv 3) pa_nil)) (nomark _)) (pw_or1 (pt_cmpR (op_neD hr.units) (pe_call Gp hr6 (by rfl) S.parsed.g S.parsed.F.kp S.parsed.b .nil pass0 (pa_cons (pv 4) pa_nil)) (pv 3) (nomark _)))).pt (pss_one (ps_ret pe_bl)) pss_nil) (pss_one (ps_for PassesOwn.never rfl (pi_range1 rfl S.B.range (pa_cons pe_int pa_nil)) (pg_name (i := 5) scLaw.nd rfl (.inl rfl)) (pss_cons (ps_set (i := 6) scLaw.nd rfl (.inl rfl) (pe_call Gd hr1 (by rfl) S.draw.g S.draw.F.kp S.draw.b .nil pass0 (pa_cons (pv 1) (pa_cons (pe_op op_add (pe_callB call_len_str (by rfl) S.B.len PySem.boot_len (pa_cons (pv 4) pa_nil)) pe_int) pa_nil)))) (pss_cons (ps_set (i := 7) scLaw.nd rfl (.inl rfl) (pe_call Gk hr2 (by rfl) S.pick.g S.pick.F.kp S.pick.b .nil pass0 (pa_cons (pv 1) (pa_cons (pe_lst (pa_cons pe_str (pa_cons pe_str (pa_cons pe_str (pa_cons pe_str (pa_cons pe_str (pa_cons pe_str (pa_cons pe_str (pa_cons pe_str (pa_cons pe_str (pa_cons pe_str (pa_cons pe_str pa_nil)))))))))))) pa_nil)))) (pss_cons (ps_set (i := 8) scLaw.nd rfl (.inl rfl) (pe_op op_add_str (pe_op op_add_str (pe_slice sl_str (pv 4) po_none (po_some (pv 6))) (pv 7)) (pe_slice sl_str (pv 4) (po_some (pe_op op_add (pv 6) (pe_call Gd hr1 (by rfl) S.draw.g S.draw.F.kp S.draw.b .nil pass0 (pa_cons (pv 1) (pa_cons pe_int pa_nil))))) po_none))) (pss_cons (ps_set (i := 9) scLaw.nd rfl (.inl rfl) (pe_call Gx hr1 (by rfl) S.read.g S.read.F.kp S.read.b .nil pass0 (pa_cons (pv 8) pa_nil))) (pss_one (ps_if (pt_cmpR (op_neD hr.units) (pe_call Gp hr6 (by rfl) S.parsed.g S.parsed.F.kp S.parsed.b .nil pass0 (pa_cons (pv 8) pa_nil)) (pe_ifExp (pt_cmpR op_isN (pv 9) pe_non (nomark _)) pe_bl (pv 9)) (nomark _)) (pss_one (ps_ret pe_bl)) pss_nil)))))))))))) (pss_cons (ps_for PassesOwn.never rfl (pi_tup (pe_tup (pa_cons pe_non (pa_cons pe_int (pa_cons pe_bl (pa_cons (pe_tup (pa_cons pe_str (pa_cons pe_str pa_nil))) (pa_cons (pe_lst (pa_cons pe_str pa_nil)) (pa_cons pe_str pa_nil)))))))) (pg_name (i := 10) scLaw.nd rfl (.inl rfl)) (pss_one (ps_if (pt_cmpR op_notBl (pe_call Gp hr6 (by rfl) S.parsed.g S.parsed.F.kp S.parsed.b .nil pass0 (pa_cons (pv 10) pa_nil)) pe_bl (nomark _)) (pss_one (ps_ret pe_bl)) pss_nil))) (pss_one (ps_ret pe_bl))))), ?_⟩
    refine ⟨.ref a, rfl, a, ns, rfl, hS, fun H0 t c s0 ht hc T0 => ?_⟩
    refine ⟨3, rfl, by decide, by decide, for_it walk_range (fun i σ H' => ∃ y2 y3 y4 y5 y6 y7 y8 y9, σ = [some (.ref a), some (.ref t), y2, y3, y4, y5, y6, y7, y8, y9, none] ∧ Tape H' t c (100000 * i)) ⟨_, _, _, _, _, _, _, _, rfl, T0⟩ (fun _ _ _ _ _ => trivial) ?_ ?_⟩
    · rintro i x0 σ G G' hi ⟨y2, y3, y4, y5, y6, y7, y8, y9, rfl, T⟩ ⟨rfl, rfl⟩
      refine ⟨.ref t, rfl, .ref t, rfl, t, c, 100000 * i, rfl, T, by omega, fun H1 z k1 T1 al => ?_⟩
      refine ⟨t, c, _, z, 8, rfl, T1, by omega, al, by decide, by decide, fun H3 v1 p1 k3 T3 isp1 ok1 len1 => ?_⟩
      have pl : p1.length ≤ 8 := by omega
      have l3 : ∀ f ∈ p1, (ls f).length ≤ 3 := fun f hf => fok_len al (ok1 f hf)
      have rp := res_pform al ok1
      have shp := rp.shaped
      have wd := pform_wd al ok1 pl
      refine ⟨v1, rfl, v1, p1, rfl, isp1, fun f hf => Nat.le_trans (l3 f hf) (by decide), by omega, fun H4 s4 => ?_⟩
      have isp4 := isp1.mono (same_tup s4)
      refine ⟨.str (pform p1), rfl, v1, rfl, v1, p1, rfl, isp4, l3, by omega, shp, fun H5 s5 => ?_⟩
      have isp5 := isp4.mono (same_tup s5)
      refine ⟨rfl, _, rfl, ite2 (fun e => ?_) (fun _ => ?_)⟩
      · rw [decide_eq_true rfl] at e
        cases e
      have s45 := s4.trans s5
      have T5 := T3.same s45
      refine ⟨.str (pform p1), rfl, .str (pform p1), rfl, .inr ⟨_, rfl, by have := wd.1; omega, fun H6 r fs s6 isr res => ?_, fun H6 s6 no => absurd rp (no _)⟩⟩
      have er := res.uniq rp
      subst er
      have isp6 := isp5.mono (same_tup s6)
      refine ⟨v1, rfl, pD fs, pD fs, isr.dp, isp6.dp, shp, shp, _, rfl, ?_⟩
      rw [pD_eqv, decide_eq_true rfl]
      refine iteF ?_
      have T6 := T5.same s6
      refine ⟨4, rfl, by decide, by decide, for_it walk_range (fun j σ H' => ∃ y5 y6 y7 y8 y9, σ = [some (.ref a), some (.ref t), some (.int (0 + (i : Int))), some v1, some (.str (pform fs)), y5, y6, y7, y8, y9, none] ∧ Tape H' t c (100000 * i + 10000 + 1000 * j)) ⟨_, _, _, _, _, rfl, T6.mono (by omega)⟩ (fun _ _ _ _ _ => trivial) ?_ ?_⟩
      · rintro j x1 σ M0 M hj ⟨y5', y6', y7', y8', y9', rfl, TM⟩ ⟨rfl, rfl⟩
        generalize hX : pform fs = X at wd
        have xl := wd.1
        have sX := sz X
        refine ⟨.ref t, rfl, .str X, rfl, X, rfl, by omega, _, 1, rfl, rfl, t, c, _, _, rfl, TM, by omega, by omega, by omega, fun M1 r kM1 TM1 r0 r1 => ?_⟩
        refine ⟨.ref t, rfl, by show 11 ≤ sizeLine; decide, fun l0 n0 => ?_⟩
        have s0' := same_upd (o := .lst marks) n0
        refine ⟨t, c, _, .ref l0, rfl, TM1.same s0', by omega, .inl ⟨l0, marks, rfl, SqL.of upd_same, by unfold marks; simp, by show 11 < 2 ^ 30; decide, fun M2 y k2 T2 hy => ?_⟩⟩
        obtain ⟨m, rfl, wm⟩ := marks_ok y hy
        refine ⟨.str X, rfl, ?_⟩
        unfold tNoPart
        refine ⟨.int r, rfl, _, rfl, X, rfl, by omega, .str m, rfl, _, m, rfl, rfl, ?_, .str X, rfl, .int r, rfl, .ref t, rfl, t, c, 2, _, rfl, T2, by omega, by decide, by decide, fun M3 d k3 T3 d0 d1 => ⟨_, _, rfl, rfl, _, rfl, X, rfl, by omega, _, _, rfl, rfl, ?_, ?_⟩⟩
        · have := (wd.cut none (some r)).1
          have := wm.1
          rw [sz, sz]
          omega
        · have := ((wd.cut none (some r)).app wm).1
          have := (wd.cut (some (r + d)) none).1
          rw [sz, sz]
          omega
        have wb : Wd 98 (cutS X none (some r) ++ m ++ cutS X (some (r + d)) none) := ((wd.cut none (some r)).app wm).app (wd.cut (some (r + d)) none)
        have bl : (tl (cutS X none (some r) ++ m ++ cutS X (some (r + d)) none)).length ≤ 60 := ?_
        generalize cutS X none (some r) ++ m ++ cutS X (some (r + d)) none = Y at wb bl ⊢
        have TM3 := T3
        refine ⟨.str Y, rfl, Y, rfl, bl, wb.2, fun M4 v9 fs4 s4 isv res => ?_, fun M4 s4 no => ?_⟩
        · refine ⟨.str Y, rfl, .str Y, rfl, .inr ⟨Y, rfl, bl, fun M5 r5 fs5 s5 isr res5 => ?_, fun M5 s5 no => absurd res (no _)⟩⟩
          have := res5.uniq res
          subst this
          obtain ⟨b, xs, rfl, hb, iF⟩ := isv
          have isv5 : IsP K M5 (.ref b) fs5 := ⟨b, xs, rfl, same_tup s5 _ _ hb, iF.mono (same_tup s5)⟩
          refine ⟨.ref b, rfl, rfl, _, rfl, ite2 (fun e => ?_) (fun _ => ?_)⟩
          · rw [decide_eq_false (fun q => by cases q)] at e
            cases e
          refine ⟨.ref b, rfl, pD fs5, pD fs5, isr.dp, isv5.dp, res.shaped, res.shaped, _, rfl, ?_⟩
          rw [pD_eqv, decide_eq_true rfl]
          exact iteF ⟨_, _, _, _, _, rfl, (TM3.same (s4.trans s5)).mono (by omega)⟩
        · refine ⟨.str Y, rfl, .str Y, rfl, .inr ⟨Y, rfl, bl, fun M5 r5 fs5 s5 isr res5 => absurd res5 (no _), fun M5 s5 _ => ?_⟩⟩
          refine ⟨.non, rfl, rfl, _, rfl, iteT ⟨.bool true, .bool true, .bl true, .bl true, by decide +kernel, by decide +kernel, _, rfl, ?_⟩⟩
          exact iteF ⟨_, _, _, _, _, rfl, (TM3.same (s4.trans s5)).mono (by omega)⟩
        · obtain ⟨n, rfl⟩ := Int.eq_ofNat_of_zero_le r0
          obtain ⟨k', rfl⟩ := Int.eq_ofNat_of_zero_le d0
          have e2 : ((n : Int) + (k' : Int)) = ((n + k' : Nat) : Int) := by omega
          rw [tl_app2, tl_app2, cutS_to, e2, cutS_from, List.length_append, List.length_append, List.length_take, List.length_drop]
          have := wm.1
          omega
      rintro σ M ⟨y5', y6', y7', y8', y9', rfl, TM⟩
      exact ⟨_, _, _, _, _, _, _, _, rfl, TM.mono (by omega)⟩
    · rintro σ G ⟨y2, y3, y4, y5, y6, y7, y8, y9, rfl, T⟩
      refine ⟨by show 2 ≤ sizeLine; decide, fun p hp => ⟨by show 1 ≤ sizeLine; decide, fun l hl => ⟨by show 6 ≤ sizeLine; decide, fun q hq => ?_⟩⟩⟩
      have sp := same_upd (o := .tup [V.str "opt", V.str "a"]) hp
      have sl' := same_upd (o := .lst [V.str "a?"]) hl
      have sq := same_upd (o := .tup [V.non, V.int 0, V.bl true, .ref p, .ref l, V.str ""]) hq
      have gq : (upd (upd (upd G p (.tup [V.str "opt", V.str "a"])) l (.lst [V.str "a?"])) q (.tup [V.non, V.int 0, V.bl true, .ref p, .ref l, V.str ""])) q = some (.tup [V.non, V.int 0, V.bl true, .ref p, .ref l, V.str ""]) := upd_same
      have gp := sq _ _ (sl' _ _ (show upd G p (.tup [V.str "opt", V.str "a"]) p = _ from upd_same))
      have gl := sq _ _ (show (upd (upd G p (.tup [V.str "opt", V.str "a"])) l (.lst [V.str "a?"])) l = _ from upd_same)
      generalize upd (upd (upd G p (.tup [V.str "opt", V.str "a"])) l (.lst [V.str "a?"])) q (.tup [V.non, V.int 0, V.bl true, .ref p, .ref l, V.str ""]) = N at gq gp gl ⊢
      refine ⟨q, rfl, ⟨_, SqT.of gq⟩, for_it (walk_tup (xs := [V.non, V.int 0, V.bl true, .ref p, .ref l, V.str ""])) (fun n σ H' => ∃ y2 y3 y4 y5 y6 y7 y8 y9 y10, σ = [some (.ref a), some (.ref t), y2, y3, y4, y5, y6, y7, y8, y9, y10] ∧ Same N H') ⟨_, _, _, _, _, _, _, _, _, rfl, Same.refl _⟩ (fun _ _ _ _ ⟨_, _, _, _, _, _, _, _, _, _, sm⟩ => same_tup sm _ _ (SqT.of gq)) ?_ ?_⟩
      · rintro n v σ N0 M hn ⟨y2, y3, y4, y5, y6, y7, y8, y9, y10, rfl, sm⟩ ⟨rfl, hv⟩
        have np : NoS K M v ∨ v = .str "" := by
          match n, hv with
          | 0, hv => cases hv; exact .inl ⟨_, .base .non, kit_ty (by decide +kernel)⟩
          | 1, hv => cases hv; exact .inl ⟨_, .base (.int _), kit_ty (by decide +kernel)⟩
          | 2, hv => cases hv; exact .inl ⟨_, .base (.bl _), kit_ty (by decide +kernel)⟩
          | 3, hv => cases hv; exact .inl ⟨_, .base (.tup (sm _ _ gp)), kit_ty (by decide +kernel)⟩
          | 4, hv => cases hv; exact .inl ⟨_, .base (.lst (sm _ _ gl)), kit_ty (by decide +kernel)⟩
          | 5, hv => cases hv; exact .inr rfl
        rcases np with no | rfl
        · refine ⟨v, rfl, v, rfl, .inl ⟨no, fun H' s' => ⟨true, true, rfl, rfl, ?_⟩⟩⟩
          exact ⟨_, rfl, iteF ⟨_, _, _, _, _, _, _, _, _, rfl, sm.trans s'⟩⟩
        · refine ⟨_, rfl, _, rfl, .inr ⟨"", rfl, by decide +kernel, fun H' r fs s' isr res => ?_, fun H' s' _ => ⟨true, true, rfl, rfl, ?_⟩⟩⟩
          · rcases res with ⟨e, _⟩ | ⟨_, G⟩
            · exact absurd e (by decide +kernel)
            · have e := G.1
              rw [show tl ("" : Str) = [] by decide +kernel] at e
              cases q : fs with
              | nil => exact absurd q G.2.1
              | cons f l =>
                rw [q, List.map_cons, List.flatten_cons] at e
                exact absurd (List.append_eq_nil_iff.mp e.symm).1 (wf_ne f)
          · exact ⟨_, rfl, iteF ⟨_, _, _, _, _, _, _, _, _, rfl, sm.trans s'⟩⟩
      · rintro σ M ⟨y2, y3, y4, y5, y6, y7, y8, y9, y10, rfl, sm⟩
        exact k _
end
end DW
set_option maxHeartbeats 0
namespace DW
open PySem PySem.Spec PyProof.Rows L2
def mkD (x : Str) (st : Stmt) : He.DefD := ⟨(x, none), x, x, defArgs st, defBody st, defScope st, [], []⟩
def fn : List He.DefD := [mkD "law" sLaw, mkD "is_ascending" sIsAscending, mkD "is_alphabet" sIsAlphabet, mkD "is_word" sIsWord, mkD "is_factor" sIsFactor, mkD "is_product" sIsProduct, mkD "format_factor" sFormatFactor, mkD "format_product" sFormatProduct, mkD "read_factor" sReadFactor, mkD "read_factors" sReadFactors, mkD "letters_of" sLettersOf, mkD "parse_product" sParseProduct, mkD "_law_begin" sBegin, mkD "_law_draw" sDraw, mkD "_law_pick" sPick, mkD "_law_alphabet" sAlpha, mkD "_law_factor" sFactor, mkD "_law_product" sProduct, mkD "_law_written" sLWritten, mkD "_law_read" sLRead, mkD "_law_parsed" sLParsed]
def fa : List He.Fa := [.glo "law", .glo "is_ascending", .glo "is_alphabet", .glo "is_word", .glo "is_factor", .glo "is_product", .glo "format_factor", .glo "format_product", .glo "read_factor", .glo "read_factors", .glo "letters_of", .glo "parse_product", .glo "_law_begin", .glo "_law_draw", .glo "_law_pick", .glo "_law_alphabet", .glo "_law_factor", .glo "_law_product", .glo "_law_written", .glo "_law_read", .glo "_law_parsed", .free "all", .free "zip", .free "isinstance", .free "str", .free "len", .free "tuple", .free "sorted", .free "set", .free "range", .int "MOST_LETTERS" 3, .str "EMPTY_FORM" "-", .free "super"]
abbrev R : PySem.W.OpenRow := PySem.W.OpenLaw.row PySem.Challenge.rw_downwords_k06_written_products
def xs : EX.Xs := { ini := [⟨"InvalidProduct", "InvalidProduct.__init__", "index", defArgs (clsS 2 0), defBody (clsS 2 0), defScope (clsS 2 0)⟩, ⟨"InvalidText", "InvalidText.__init__", "line", defArgs (clsS 3 0), defBody (clsS 3 0), defScope (clsS 3 0)⟩], ex := ["DownwordsError"], kit := [("InvalidText", "DownwordsError", true), ("InvalidText", "InvalidProduct", false)], exm := [("InvalidText", "InvalidText", true)], own := [], kty := [] }
abbrev hk : PySem.W.Hook := EX.hookX R.prog 4 fa fn xs
def ob (s : PySem.W.SharedT) : EX.AlX := EX.obsXG R.prog 4 fa fn xs (HandSHeadRun.getT s)
theorem ob_eq (s : PySem.W.SharedT) : ob s = hk.obs s.abs := EX.obsXG_eq (HandSHeadRun.getT_eq s)
abbrev names : List Str := ["__name__", "DownwordsError", "InvalidProduct", "InvalidText", "MOST_LETTERS", "EMPTY_FORM", "is_ascending", "is_alphabet", "is_word", "is_factor", "is_product", "format_factor", "format_product", "read_factor", "read_factors", "letters_of", "parse_product", "_law_begin", "_law_draw", "_law_pick", "_law_alphabet", "_law_factor", "_law_product", "_law_written", "_law_read", "_law_parsed"]
theorem run (w : World) : HandSHeadRun.RunEq R (PySem.W.view R.prog [29]) hk ob 4000 names w := by
  intro os
  kernel_rfl
theorem df {K : PySem.W.Frag} {h : Heap} {mg : Str → Option Value} {x : Str} {st : Stmt} {ps : List Str} (X : K.In h) (G : h.Ns mainGlobals mg) (hf : ∃ fd, FunD K x x (defArgs st) (defBody st) (defScope st) [] [] (He.fAd K (x, none)) fd) (hg : (He.Fa.glo x).ok K = true)
    (b : ∀ (kV doc pm : Value) (an : Option Addr) (cdv ct : Value) (us : List Value), us.length = ps.length → bindArgs (PySem.W.fnOf x x (defArgs st) (defBody st) (defScope st) .none kV doc pm an cdv ct) ⟨us, []⟩ = pure (ps.zip us)) :
    ∃ D : Df K mg x st ps, D.f = He.fAd K (x, none) := by
  obtain ⟨fd, F⟩ := hf
  exact ⟨⟨He.fAd K (x, none), fd, F, He.glo_ok X G hg, F.bindsN b⟩, rfl⟩
theorem facts {w : World} {K : PySem.W.Frag} {h : Heap} {mg : Str → Option Value} {f : Addr} (X : K.In h) (G : h.Ns mainGlobals mg) (hfa : mg ("law" : Str) = some (.ref f)) (cx : EX.SaysX R.prog fa fn xs K) :
    ∃ fd : FuncData, (∀ (s : Shared) (v : Value), BindsTo s fd ⟨[v], []⟩ [("_law_script", v)]) ∧ ∀ base : Heap, K.In base → base.Ns mainGlobals mg → FnOk R.prog w K mg base CX0 7 f fd ["_law_script"] (spLaw K) := by
  have c := cx.d
  have e := hfa.symm.trans (He.glo_ok X G (c.fact 0 (f := .glo "law") rfl))
  cases e
  obtain ⟨D0, e0⟩ := df (st := sLaw) (ps := ["_law_script"]) X G (c.def_ 0 (d := mkD "law" sLaw) rfl) (c.fact 0 (f := .glo "law") rfl) fun _ _ _ _ _ _ us hl => match us, hl with | [_], _ => rfl
  obtain ⟨D1, e1⟩ := df (st := sIsAscending) (ps := ["letters"]) X G (c.def_ 1 (d := mkD "is_ascending" sIsAscending) rfl) (c.fact 1 (f := .glo "is_ascending") rfl) fun _ _ _ _ _ _ us hl => match us, hl with | [_], _ => rfl
  obtain ⟨D2, e2⟩ := df (st := sIsAlphabet) (ps := ["thing"]) X G (c.def_ 2 (d := mkD "is_alphabet" sIsAlphabet) rfl) (c.fact 2 (f := .glo "is_alphabet") rfl) fun _ _ _ _ _ _ us hl => match us, hl with | [_], _ => rfl
  obtain ⟨D3, e3⟩ := df (st := sIsWord) (ps := ["alphabet", "thing"]) X G (c.def_ 3 (d := mkD "is_word" sIsWord) rfl) (c.fact 3 (f := .glo "is_word") rfl) fun _ _ _ _ _ _ us hl => match us, hl with | [_, _], _ => rfl
  obtain ⟨D4, e4⟩ := df (st := sIsFactor) (ps := ["alphabet", "thing"]) X G (c.def_ 4 (d := mkD "is_factor" sIsFactor) rfl) (c.fact 4 (f := .glo "is_factor") rfl) fun _ _ _ _ _ _ us hl => match us, hl with | [_, _], _ => rfl
  obtain ⟨D5, e5⟩ := df (st := sIsProduct) (ps := ["alphabet", "thing"]) X G (c.def_ 5 (d := mkD "is_product" sIsProduct) rfl) (c.fact 5 (f := .glo "is_product") rfl) fun _ _ _ _ _ _ us hl => match us, hl with | [_, _], _ => rfl
  obtain ⟨D6, e6⟩ := df (st := sFormatFactor) (ps := ["factor"]) X G (c.def_ 6 (d := mkD "format_factor" sFormatFactor) rfl) (c.fact 6 (f := .glo "format_factor") rfl) fun _ _ _ _ _ _ us hl => match us, hl with | [_], _ => rfl
  obtain ⟨D7, e7⟩ := df (st := sFormatProduct) (ps := ["product"]) X G (c.def_ 7 (d := mkD "format_product" sFormatProduct) rfl) (c.fact 7 (f := .glo "format_product") rfl) fun _ _ _ _ _ _ us hl => match us, hl with | [_], _ => rfl
  obtain ⟨D8, e8⟩ := df (st := sReadFactor) (ps := ["text", "start"]) X G (c.def_ 8 (d := mkD "read_factor" sReadFactor) rfl) (c.fact 8 (f := .glo "read_factor") rfl) fun _ _ _ _ _ _ us hl => match us, hl with | [_, _], _ => rfl
  obtain ⟨D9, e9⟩ := df (st := sReadFactors) (ps := ["text"]) X G (c.def_ 9 (d := mkD "read_factors" sReadFactors) rfl) (c.fact 9 (f := .glo "read_factors") rfl) fun _ _ _ _ _ _ us hl => match us, hl with | [_], _ => rfl
  obtain ⟨D10, e10⟩ := df (st := sLettersOf) (ps := ["factors"]) X G (c.def_ 10 (d := mkD "letters_of" sLettersOf) rfl) (c.fact 10 (f := .glo "letters_of") rfl) fun _ _ _ _ _ _ us hl => match us, hl with | [_], _ => rfl
  obtain ⟨D11, e11⟩ := df (st := sParseProduct) (ps := ["text"]) X G (c.def_ 11 (d := mkD "parse_product" sParseProduct) rfl) (c.fact 11 (f := .glo "parse_product") rfl) fun _ _ _ _ _ _ us hl => match us, hl with | [_], _ => rfl
  obtain ⟨D12, e12⟩ := df (st := sBegin) (ps := ["_law_script"]) X G (c.def_ 12 (d := mkD "_law_begin" sBegin) rfl) (c.fact 12 (f := .glo "_law_begin") rfl) fun _ _ _ _ _ _ us hl => match us, hl with | [_], _ => rfl
  obtain ⟨D13, e13⟩ := df (st := sDraw) (ps := ["_law_tape", "_law_many"]) X G (c.def_ 13 (d := mkD "_law_draw" sDraw) rfl) (c.fact 13 (f := .glo "_law_draw") rfl) fun _ _ _ _ _ _ us hl => match us, hl with | [_, _], _ => rfl
  obtain ⟨D14, e14⟩ := df (st := sPick) (ps := ["_law_tape", "_law_items"]) X G (c.def_ 14 (d := mkD "_law_pick" sPick) rfl) (c.fact 14 (f := .glo "_law_pick") rfl) fun _ _ _ _ _ _ us hl => match us, hl with | [_, _], _ => rfl
  obtain ⟨D15, e15⟩ := df (st := sAlpha) (ps := ["_law_tape"]) X G (c.def_ 15 (d := mkD "_law_alphabet" sAlpha) rfl) (c.fact 15 (f := .glo "_law_alphabet") rfl) fun _ _ _ _ _ _ us hl => match us, hl with | [_], _ => rfl
  obtain ⟨D16, e16⟩ := df (st := sFactor) (ps := ["_law_tape", "_law_alphabet_here"]) X G (c.def_ 16 (d := mkD "_law_factor" sFactor) rfl) (c.fact 16 (f := .glo "_law_factor") rfl) fun _ _ _ _ _ _ us hl => match us, hl with | [_, _], _ => rfl
  obtain ⟨D17, e17⟩ := df (st := sProduct) (ps := ["_law_tape", "_law_alphabet_here", "_law_longest"]) X G (c.def_ 17 (d := mkD "_law_product" sProduct) rfl) (c.fact 17 (f := .glo "_law_product") rfl) fun _ _ _ _ _ _ us hl => match us, hl with | [_, _, _], _ => rfl
  obtain ⟨D18, e18⟩ := df (st := sLWritten) (ps := ["_law_product_here"]) X G (c.def_ 18 (d := mkD "_law_written" sLWritten) rfl) (c.fact 18 (f := .glo "_law_written") rfl) fun _ _ _ _ _ _ us hl => match us, hl with | [_], _ => rfl
  obtain ⟨D19, e19⟩ := df (st := sLRead) (ps := ["_law_text"]) X G (c.def_ 19 (d := mkD "_law_read" sLRead) rfl) (c.fact 19 (f := .glo "_law_read") rfl) fun _ _ _ _ _ _ us hl => match us, hl with | [_], _ => rfl
  obtain ⟨D20, e20⟩ := df (st := sLParsed) (ps := ["_law_text"]) X G (c.def_ 20 (d := mkD "_law_parsed" sLParsed) rfl) (c.fact 20 (f := .glo "_law_parsed") rfl) fun _ _ _ _ _ _ us hl => match us, hl with | [_], _ => rfl
  obtain ⟨X0, qx0⟩ := cx.ex X G 0 (y := "DownwordsError") rfl
  have msup : mg "super" = none := He.free_ok X G (c.fact 32 (f := .free "super") rfl)
  obtain ⟨Y0, qy0⟩ := EX.mkE (ok := EX.MsgOk) X G (cx.ini 0).2 (cx.ini 0).1 (by decide +kernel) (fun F doc pm ctv us h1 h2 h3 h4 h5 hl => by
      obtain ⟨n1, n2, n3, n4, n5, n6, n7⟩ := F
      dsimp only at h1 h2 h3 h4 h5
      subst h1 h2 h3 h4 h5
      match us, hl with
      | [_, _], _ => rfl) (fun F cc oc doc pm ctv od osl w base h1 h2 h3 Sp lk no => by
      obtain ⟨n1, n2, n3, n4, n5, n6, n7⟩ := F
      dsimp only at h1 h2 h3
      subst h1 h2 h3
      exact EX.init_f Sp lk msup (NdefX.nscope_by (show NdefX.nscB _ _ _ (defScope (clsS 2 0)) = true by decide +kernel)) no rfl (by decide +kernel) rfl rfl rfl (by decide) (by decide) (fun L => rfl))
  obtain ⟨Y1, qy1⟩ := EX.mkE (ok := EX.MsgOk) X G (cx.ini 1).2 (cx.ini 1).1 (by decide +kernel) (fun F doc pm ctv us h1 h2 h3 h4 h5 hl => by
      obtain ⟨n1, n2, n3, n4, n5, n6, n7⟩ := F
      dsimp only at h1 h2 h3 h4 h5
      subst h1 h2 h3 h4 h5
      match us, hl with
      | [_, _], _ => rfl) (fun F cc oc doc pm ctv od osl w base h1 h2 h3 Sp lk no => by
      obtain ⟨n1, n2, n3, n4, n5, n6, n7⟩ := F
      dsimp only at h1 h2 h3
      subst h1 h2 h3
      exact EX.init_f Sp lk msup (NdefX.nscope_by (show NdefX.nscB _ _ _ (defScope (clsS 3 0)) = true by decide +kernel)) no rfl (by decide +kernel) rfl rfl rfl (by decide) (by decide) (fun L => rfl))
  have kk0 : PySem.W.kitOne K (.ref Y1.C) (.ref X0.C) = some true := by rw [qy1, qx0]; exact cx.kit 0
  have kk1 : PySem.W.kitOne K (.ref Y1.C) (.ref Y0.C) = some false := by rw [qy1, qy0]; exact cx.kit 1
  have km0 : PySem.W.exmOne K (.ref Y1.C) (.ref Y1.C) = some true := by rw [qy1]; exact cx.exm 0
  have b := FunD.bindsA (ps := ["_law_script"]) D0.F fun _ _ _ _ _ _ us hl => match us, hl with | [_], _ => rfl
  refine ⟨D0.fd, fun s v => b s [v] rfl, fun base _ _ => ?_⟩
  have q := ok_law (P := R.prog) (w := w) (base := base) D0 ⟨D1, D2, D3, D4, D5, D6, D7, D8, D9, D10, D11, D12, D13, D14, D15, D16, D17, D18, D19, D20, ⟨He.free_ok X G (c.fact 25 (f := .free "len") rfl), He.free_ok X G (c.fact 29 (f := .free "range") rfl), He.free_ok X G (c.fact 27 (f := .free "sorted") rfl), He.free_ok X G (c.fact 28 (f := .free "set") rfl)⟩, He.free_ok X G (c.fact 21 (f := .free "all") rfl), He.free_ok X G (c.fact 22 (f := .free "zip") rfl), He.free_ok X G (c.fact 23 (f := .free "isinstance") rfl), He.free_ok X G (c.fact 24 (f := .free "str") rfl), He.free_ok X G (c.fact 26 (f := .free "tuple") rfl), He.int_ok X G (c.fact 30 (f := .int "MOST_LETTERS" 3) rfl), He.str_ok X G (c.fact 31 (f := .str "EMPTY_FORM" "-") rfl), X0, Y0, Y1, kk0, kk1, km0⟩
  rw [e0] at q
  exact q
end DW
open PySem PySem.W PySem.Calls PyProof.Rows
theorem PySem.Challenge.cw_downwords_k06_written_products_holds : PySem.Challenge.rw_downwords_k06_written_products.Holds := by
  w_on; o_law
  refine HandSHeadRun.head_any (r := OpenLaw.row PySem.Challenge.rw_downwords_k06_written_products) (q := view (OpenLaw.row PySem.Challenge.rw_downwords_k06_written_products).prog [29]) (H := DW.hk) (ob := DW.ob) (M := 4000) (loose := DW.names) (d := HandSHeadRun.topDef (OpenLaw.row PySem.Challenge.rw_downwords_k06_written_products).prog 29) (kwd := []) DW.ob_eq
    (by kernel_rfl) (fun s => by kernel_rfl) DW.run (by kernel_rfl) (by kernel_rfl) (by kernel_rfl) (by rfl) (by first | assumption | decide +kernel) (by decide +kernel) ⟨rfl, rfl, rfl, rfl, rfl, by decide +kernel⟩ ?hw ?hc
  case hw => w_witness2
  case hc =>
    refine L2.walk_ofE (l := PySem.Challenge.rw_downwords_k06_written_products) (n := 63) (k := 7) (x := "_law_script") (CX := L2.CX0) rfl (by decide) (by kernel_rfl) ⟨rfl, by decide, by decide⟩ ?F (fun _ _ _ _ z => z)
    intro w mg fa h Y G hmg0
    obtain ⟨K, KX, c⟩ := Y
    have hmg : mg ("law" : PySem.Str) = some (.ref fa) := by
      have e : (HandSHeadRun.topDef (OpenLaw.row PySem.Challenge.rw_downwords_k06_written_products).prog 29).name = ("law" : PySem.Str) := by kernel_rfl
      rw [← e]
      exact hmg0
    obtain ⟨fd, hb, hF⟩ := DW.facts (w := w) KX G hmg c
    exact ⟨K, fd, DW.spLaw K, KX, hb, fun H a ns hl _ hS => ⟨a, ns, rfl, hS, fun _ => rfl⟩, hF⟩
