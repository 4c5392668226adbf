import PyProof.Rows.All
import Wide.All
import OpenK.AllK
import Wide.FinOn
import HandS.ForMost
import HandS.Dict
import HandS.Set
import HandS.Strs
import PyProof.Rows.SetObj
import HandS.Wide
import HandS.Codes
import HandS.IsInst
import HandS.Defaults
import HandS.MakeKwOnly
import HandS.ExcOwn
import HandS.WordsExc
import HandS.TryOnly
import HandS.TupAny
import HandS.Walk
import HandS.SetFor
import PySem.Challenge.RW_lentcells_k03_claims_judged
import HandS.New
import HandS.Property
import HandS.SlotsOwn
import PyProof.CallStr
import HandS.ExcCtx
import PyProof.DictUpdate
import PyProof.DictDisplay
import HandS.Conv
import KE.KDictList
import PyProof.TupleCall
import PyProof.ReprRoads
import HandS.DictComp
import HandS.Star
import HandS.WordsDict
import HandS.More
import HandS.FStr
import HandS.Text
import PyProof.StrLaws
import PyProof.StrBlockL
import HandS.StrMore
import PyProof.ReprLen
import HandS.Lambda
import HandS.DictEq
import PyProof.EqKinds
import HandS.RaiseMore
import HandS.EndBits
import HandS.EndTab
import HandS.EndOwn
import HandS.Words
set_option Elab.async false
set_option linter.all false
set_option autoImplicit false
set_option maxRecDepth 100000
set_option maxHeartbeats 6000000
/-! set(xs), xs a list or tuple of texts and ints, and its length -/
namespace KX
open PySem PySem.Spec PyProof.Rows L2
/-- each once, in the order in which they come first -/
def once {κ : Type} [DecidableEq κ] (ks : List κ) : List κ := ks.foldl (fun acc k => if k ∈ acc then acc else acc ++ [k]) []
theorem once_snoc {κ : Type} [DecidableEq κ] (ks : List κ) (k : κ) : once (ks ++ [k]) = if k ∈ once ks then once ks else once ks ++ [k] := by
  unfold once
  rw [List.foldl_append]
  rfl
theorem once_le {κ : Type} [DecidableEq κ] (ks : List κ) : (once ks).length ≤ ks.length := by
  have go : ∀ (l acc : List κ), (l.foldl (fun acc k => if k ∈ acc then acc else acc ++ [k]) acc).length ≤ acc.length + l.length := fun l => by
    induction l with
    | nil => exact fun acc => Nat.le_refl _
    | cons k l ih =>
      intro acc
      have y := ih (if k ∈ acc then acc else acc ++ [k])
      rw [List.foldl_cons, List.length_cons]
      by_cases m : k ∈ acc
      · rw [if_pos m] at y ⊢
        omega
      · rw [if_neg m] at y ⊢
        rw [List.length_append, List.length_singleton] at y
        omega
  have y := go ks []
  rw [List.length_nil, Nat.zero_add] at y
  exact y
section
variable {prog : Program} {w : World} {κ : Type} [DecidableEq κ] {knd : KeyKind prog w κ} {A : Around} {R : Result → Shared → Prop} {I : Addr} {fp wr : List Addr} {G : Array GenState → Array GenState → Prop} {n : Nat} {P : Nat → Value → Prop} {St : Nat → Shared → Prop}
theorem fill_set (W : WalksS prog w A.in1 I fp wr G n P St) (S : Addr) (out : S ∉ fp) (ks : List κ) (len : ks.length = n) (few : n + 1 < scanBound) (is : ∀ i v, P i v → ∃ k, ks[i]? = some k ∧ knd.is k v = true ∧ v.scannable = true) :
    ∀ (k i : Nat) (s : Shared), n - i = k → i ≤ n → St i s → s.heap.SetOf knd S (fun y => decide (y ∈ once (ks.take i))) (once (ks.take i)).length →
      (∀ s', Moved (S :: wr) G s s' → s'.heap.SetOf knd S (fun y => decide (y ∈ once ks)) (once ks).length → R (.ok (.ret .none)) s') →
      codeAny (model prog w) A (.builtin "set.update.loop" ⟨[.ref S, .ref I], []⟩) R s := by
  have out2 : S ∉ wr := fun h => out (W.sub _ h)
  have wider : ∀ b ∈ wr, b ∈ S :: wr := fun b hb => List.mem_cons_of_mem _ hb
  intro k
  induction k with
  | zero =>
    intro i s hk hi st hS hR
    obtain rfl : i = n := by omega
    refine codeAny_builtin PyProof.Rows.F.entry_set_update_loop ?_
    rw [Around.under_plainId PyProof.Rows.F.plain_set_update_loop _]
    show wpAny _ A.in1 (pyNext (.ref I) >>= _) _ _ s
    refine wpAny_bind (W.done s _ _ st fun s' mv => ?_)
    show wpAny _ A.in1 (ret Value.none) _ _ s'
    refine wpAny_pure (hR s' (mv.mono wider) ?_)
    rw [← len, List.take_length] at hS
    obtain ⟨o, es, ep, t, ho, y⟩ := hS
    exact ⟨o, es, ep, t, mv.heap S _ out2 ho, y⟩
  | succ k ih =>
    intro i s hk hi st hS hR
    have lt : i < n := by omega
    refine codeAny_builtin PyProof.Rows.F.entry_set_update_loop ?_
    rw [Around.under_plainId PyProof.Rows.F.plain_set_update_loop _]
    show wpAny _ A.in1 (pyNext (.ref I) >>= _) _ _ s
    refine wpAny_bind (W.item i s _ _ lt st fun v s' hP st' mv => ?_)
    obtain ⟨x, hx, hkey, sc⟩ := is i v hP
    have hS1 : s'.heap.SetOf knd S (fun y => decide (y ∈ once (ks.take i))) (once (ks.take i)).length := by
      obtain ⟨o, es, ep, t, ho, y⟩ := hS
      exact ⟨o, es, ep, t, mv.heap S _ out2 ho, y⟩
    show wpAny _ A.in1 (holding [v] (setAdd S v) >>= _) _ _ s'
    refine wpAny_bind (wpAny_holding ?_)
    unfold setAdd
    refine wpAny_holding (wpAny_bind (knd.pyHash hkey ?_))
    have small : (once (ks.take i)).length + 1 < scanBound := by
      have y := once_le (ks.take i)
      rw [List.length_take] at y
      omega
    refine wpAny_setAddHashed_of (knd := knd) (s := { s' with toks := s'.toks + 1 }) hkey sc hS1 small fun h' sb hS2 => ?_
    have hS3 : h'.SetOf knd S (fun y => decide (y ∈ once (ks.take (i + 1)))) (once (ks.take (i + 1))).length := by
      have e : ks.take (i + 1) = ks.take i ++ [x] := by rw [List.take_add_one, hx]; rfl
      refine SetOf_congr hS2 (fun y => ?_) ?_
      · rw [e, once_snoc]
        by_cases m : x ∈ once (ks.take i)
        · rw [if_pos m]
          by_cases z : y = x
          · rw [z, decide_eq_true m]
            rfl
          · rw [decide_eq_false z, Bool.or_false]
        · rw [if_neg m]
          by_cases z : y = x
          · rw [z]
            simp
          · simp [z]
      · rw [e, once_snoc]
        by_cases m : x ∈ once (ks.take i)
        · rw [if_pos m, if_pos (decide_eq_true m)]
        · rw [if_neg m, if_neg (by rw [decide_eq_false m]; exact Bool.false_ne_true)]
          simp
    refine wpAny_pure ⟨plainId_quiet PyProof.Rows.F.plain_set_update_loop _, ih (i + 1) _ (by omega) lt (W.frame _ s' _ _ st' (Nat.le_succ _) fun b hb o e => ?_) hS3 fun s'' mv2 hS4 => ?_⟩
    · rw [sb.2 b (fun z : b = S => out (by rw [← z]; exact hb))]
      exact e
    · refine hR s'' (Moved.trans W.gtrans ((mv.mono wider).then_heap (Nat.le_succ _) fun b o hb e => ?_) mv2) hS4
      rw [sb.2 b (fun z : b = S => hb (by rw [z]; exact List.mem_cons_self))]
      exact e
end
section
variable {prog : Program} {w : World} {A : Around} {E : Value → Shared → Prop} {s : Shared}
abbrev setNew (led : Bool) : Obj := { cls := .type "set", dict := none, data := .set #[] 0 (.fresh 0 0 led) }
theorem set_of_list {κ : Type} [DecidableEq κ] (knd : KeyKind prog w κ) {l : Addr} {items : Array Value} {ks : List κ} {Q : Value → Shared → Prop} (hh : A.handled = none) (seq : s.heap.IsList l items) (len : ks.length = items.size) (few : items.size + 1 < scanBound)
    (is : ∀ (i : Nat) (v : Value), items[i]? = some v → ∃ k, ks[i]? = some k ∧ knd.is k v = true ∧ v.scannable = true)
    (q : ∀ (h' : Heap) (tk : Nat), h'.SetOf knd s.heap.objs.size (fun y => decide (y ∈ once ks)) (once ks).length → (∀ b o, b < s.heap.objs.size → s.heap.get? b = some o → h'.get? b = some o) → Q (.ref s.heap.objs.size) { s with heap := h', toks := tk }) :
    wpAny (model prog w) A (call (.type "set") [.ref l]) Q E s := by
  obtain ⟨c0, t0, y_mro⟩ := PySem.F.called_set.mro
  have y_made := PySem.F.called_set.made
  have y_sub := PySem.F.called_set.sub
  refine wpAny_call (codeAny_of_tree ?_)
  show wpAny _ _ (callAny (.type "set") _) _ _ _
  refine wpAny_pure ⟨Code.quiet_builtin _ (by decide +kernel), codeAny_builtin PySem.F.entry_type_call ?_⟩
  rw [Around.under_plain (weight_type_call_type "set" [.ref l] []) rfl]
  have y_not := PySem.F.called_set.notType
  have y_can := PySem.F.called_set.canCreate
  have y_chk := PySem.F.typeCall_set_1 (.ref l)
  repeat (any_goals (first | assumption | wp_step))

  refine codeAny_mono (code_set_new_1 (.ref l) (E := E) (Q₁ := fun y s1 => ∃ led : Bool, y = .ref s.heap.objs.size ∧ s1 = { s with heap := s.heap.push (setNew led) }) fun led => ⟨led, rfl, rfl⟩) fun r s1 hr => ?_
  match r, hr with
  | .error e, hr => exact hr
  | .ok .next, hr => exact hr.elim
  | .ok .brk, hr => exact hr.elim
  | .ok .cont, hr => exact hr.elim
  | .ok (.ret y), hr =>
    obtain ⟨led, rfl, rfl⟩ := hr
    have hS : (s.heap.push (setNew led)).get? s.heap.objs.size = some (setNew led) := Heap.get?_push_size _ rfl
    have hT : Shared.TypeIs { s with heap := s.heap.push (setNew led) } (.ref s.heap.objs.size) "set" := ⟨_, hS, rfl⟩
    have y_look := PySem.F.called_set.init.lookup
    have y_bind := PySem.F.called_set.init.bind (.ref s.heap.objs.size)
    repeat (any_goals (first | assumption | wp_step))

    refine codeAny_mono (codeAny_call_builtin (R := wants (fun r s2 => r = .none ∧ ∃ h' tk, s2 = { s with heap := h', toks := tk } ∧ h'.SetOf knd s.heap.objs.size (fun y => decide (y ∈ once ks)) (once ks).length ∧
        (∀ b o, b < s.heap.objs.size → s.heap.get? b = some o → h'.get? b = some o)) E) PySem.F.called_set.init.plain PySem.F.entry_set_init (check_set_init_1 hT ?_)) fun r2 s2 hr2 => ?_
    · obtain ⟨ol, hol, oc, nl, od⟩ := seq
      obtain ⟨o1, o2, o3, o4⟩ := ol
      dsimp only at oc od
      subst oc od
      have there : (s.heap.push (setNew led)).get? l = some { cls := .type "list", dict := o2, data := .seq items nl, slots := o4 } := Heap.get?_push_of_some _ hol
      have y_s1 := PySem.F.sub_list_set
      have y_s2 := PySem.F.sub_list_frozenset
      have y_ne : (Value.type "list" == Value.type "dict") = false := by decide
      have seq1 : (s.heap.push (setNew led)).IsList l items := ⟨_, there, rfl, nl, rfl⟩
      unfold Builtin.«set.__init__» noKeywords Builtin.Frozenset.updateFrom
      generalize y_it : pyIter = PI
      wp_walk
      subst y_it

      refine wpAny_pyIter_list seq1 (wpAny_bind (wpAny_runValue ?_))
      have low : l < s.heap.objs.size := Heap.lt_size hol
      have hh3 : A.in1.in1.in1.handled = none := by simp [hh]
      have apart : l ≠ (s.heap.push (setNew led)).objs.size := by
        rw [Heap.size_push]
        exact Nat.ne_of_lt (Nat.lt_succ_of_lt low)
      have out : s.heap.objs.size ∉ [(s.heap.push (setNew led)).objs.size, l] := by
        intro z
        rw [Heap.size_push] at z
        rcases List.mem_cons.mp z with z | z
        · exact absurd z (Nat.ne_of_lt (Nat.lt_succ_self _))
        · exact absurd (List.mem_singleton.mp z).symm (Nat.ne_of_lt low)
      refine fill_set (knd := knd) ((Walks.list hh3 _ l apart items).toS) s.heap.objs.size out ks len few (fun i v hv => is i v hv) (items.size - 0) 0 _ (by omega) (Nat.zero_le _) ⟨⟨_, Heap.get?_push_size _ rfl, rfl, rfl⟩, (seq1.push _)⟩ ?_ ?_
      · have got : ((s.heap.push (setNew led)).push { cls := .type "list_iterator", data := .fields #[.ref l, .int 0 0] }).get? s.heap.objs.size = some (setNew led) := Heap.get?_push_of_some _ hS
        exact SetOf_congr ((PyProof.Rows.setObjOf_fresh (knd := knd) led).setOf got (by unfold scanBound; omega)) (fun _ => rfl) rfl
      · rintro ⟨h', g', d', tk', os'⟩ mv hS2
        obtain rfl : g' = s.gens := mv.gens
        obtain rfl : d' = s.drawn := mv.drawn
        obtain rfl : os' = s.os := mv.os
        show wpAny _ _ _ _ _ _
        refine wpAny_pure ?_
        show wpAny _ _ (ret Value.none) _ _ _
        refine wpAny_pure ⟨rfl, h', tk', rfl, hS2, fun b o hb e => mv.heap b o (fun z => ?_) (Heap.get?_push_of_some _ (Heap.get?_push_of_some _ e))⟩
        simp only [List.mem_cons, List.not_mem_nil, or_false, Heap.size_push] at z
        rcases z with z | z
        · exact absurd z (Nat.ne_of_lt hb)
        · exact absurd z (Nat.ne_of_lt (Nat.lt_succ_of_lt hb))
    · match r2, hr2 with
      | .error e, hr2 => exact hr2
      | .ok .next, hr2 => exact hr2.elim
      | .ok .brk, hr2 => exact hr2.elim
      | .ok .cont, hr2 => exact hr2.elim
      | .ok (.ret r), hr2 =>
        obtain ⟨rfl, h', tk, rfl, hS2, kp⟩ := hr2
        repeat (any_goals (first | assumption | wp_step))
        exact q _ _ hS2 kp
theorem set_of_tuple {κ : Type} [DecidableEq κ] (knd : KeyKind prog w κ) {l : Addr} {items : Array Value} {ks : List κ} {Q : Value → Shared → Prop} (hh : A.handled = none) (seq : s.heap.IsTuple l items) (len : ks.length = items.size) (few : items.size + 1 < scanBound)
    (is : ∀ (i : Nat) (v : Value), items[i]? = some v → ∃ k, ks[i]? = some k ∧ knd.is k v = true ∧ v.scannable = true)
    (q : ∀ (h' : Heap) (tk : Nat), h'.SetOf knd s.heap.objs.size (fun y => decide (y ∈ once ks)) (once ks).length → (∀ b o, b < s.heap.objs.size → s.heap.get? b = some o → h'.get? b = some o) → Q (.ref s.heap.objs.size) { s with heap := h', toks := tk }) :
    wpAny (model prog w) A (call (.type "set") [.ref l]) Q E s := by
  obtain ⟨c0, t0, y_mro⟩ := PySem.F.called_set.mro
  have y_made := PySem.F.called_set.made
  have y_sub := PySem.F.called_set.sub
  refine wpAny_call (codeAny_of_tree ?_)
  show wpAny _ _ (callAny (.type "set") _) _ _ _
  refine wpAny_pure ⟨Code.quiet_builtin _ (by decide +kernel), codeAny_builtin PySem.F.entry_type_call ?_⟩
  rw [Around.under_plain (weight_type_call_type "set" [.ref l] []) rfl]
  have y_not := PySem.F.called_set.notType
  have y_can := PySem.F.called_set.canCreate
  have y_chk := PySem.F.typeCall_set_1 (.ref l)
  repeat (any_goals (first | assumption | wp_step))

  refine codeAny_mono (code_set_new_1 (.ref l) (E := E) (Q₁ := fun y s1 => ∃ led : Bool, y = .ref s.heap.objs.size ∧ s1 = { s with heap := s.heap.push (setNew led) }) fun led => ⟨led, rfl, rfl⟩) fun r s1 hr => ?_
  match r, hr with
  | .error e, hr => exact hr
  | .ok .next, hr => exact hr.elim
  | .ok .brk, hr => exact hr.elim
  | .ok .cont, hr => exact hr.elim
  | .ok (.ret y), hr =>
    obtain ⟨led, rfl, rfl⟩ := hr
    have hS : (s.heap.push (setNew led)).get? s.heap.objs.size = some (setNew led) := Heap.get?_push_size _ rfl
    have hT : Shared.TypeIs { s with heap := s.heap.push (setNew led) } (.ref s.heap.objs.size) "set" := ⟨_, hS, rfl⟩
    have y_look := PySem.F.called_set.init.lookup
    have y_bind := PySem.F.called_set.init.bind (.ref s.heap.objs.size)
    repeat (any_goals (first | assumption | wp_step))

    refine codeAny_mono (codeAny_call_builtin (R := wants (fun r s2 => r = .none ∧ ∃ h' tk, s2 = { s with heap := h', toks := tk } ∧ h'.SetOf knd s.heap.objs.size (fun y => decide (y ∈ once ks)) (once ks).length ∧
        (∀ b o, b < s.heap.objs.size → s.heap.get? b = some o → h'.get? b = some o)) E) PySem.F.called_set.init.plain PySem.F.entry_set_init (check_set_init_1 hT ?_)) fun r2 s2 hr2 => ?_
    · obtain ⟨ol, hol, oc, nl, od⟩ := seq
      obtain ⟨o1, o2, o3, o4⟩ := ol
      dsimp only at oc od
      subst oc od
      have there : (s.heap.push (setNew led)).get? l = some { cls := .type "tuple", dict := o2, data := .seq items nl, slots := o4 } := Heap.get?_push_of_some _ hol
      have y_s1 := PySem.F.sub_tuple_set
      have y_s2 := PySem.F.sub_tuple_frozenset
      have y_ne : (Value.type "tuple" == Value.type "dict") = false := by decide
      have seq1 : (s.heap.push (setNew led)).IsTuple l items := ⟨_, there, rfl, nl, rfl⟩
      unfold Builtin.«set.__init__» noKeywords Builtin.Frozenset.updateFrom
      generalize y_it : pyIter = PI
      wp_walk
      subst y_it

      refine wpAny_pyIter_tuple seq1 (wpAny_bind (wpAny_runValue ?_))
      have low : l < s.heap.objs.size := Heap.lt_size hol
      have hh3 : A.in1.in1.in1.handled = none := by simp [hh]
      have apart : l ≠ (s.heap.push (setNew led)).objs.size := by
        rw [Heap.size_push]
        exact Nat.ne_of_lt (Nat.lt_succ_of_lt low)
      have out : s.heap.objs.size ∉ [(s.heap.push (setNew led)).objs.size, l] := by
        intro z
        rw [Heap.size_push] at z
        rcases List.mem_cons.mp z with z | z
        · exact absurd z (Nat.ne_of_lt (Nat.lt_succ_self _))
        · exact absurd (List.mem_singleton.mp z).symm (Nat.ne_of_lt low)
      refine fill_set (knd := knd) ((Walks.tuple hh3 _ l apart items).toS) s.heap.objs.size out ks len few (fun i v hv => is i v hv) (items.size - 0) 0 _ (by omega) (Nat.zero_le _) ⟨⟨_, Heap.get?_push_size _ rfl, rfl, rfl⟩, (seq1.push _)⟩ ?_ ?_
      · have got : ((s.heap.push (setNew led)).push { cls := .type "tuple_iterator", data := .fields #[.ref l, .int 0 0] }).get? s.heap.objs.size = some (setNew led) := Heap.get?_push_of_some _ hS
        exact SetOf_congr ((PyProof.Rows.setObjOf_fresh (knd := knd) led).setOf got (by unfold scanBound; omega)) (fun _ => rfl) rfl
      · rintro ⟨h', g', d', tk', os'⟩ mv hS2
        obtain rfl : g' = s.gens := mv.gens
        obtain rfl : d' = s.drawn := mv.drawn
        obtain rfl : os' = s.os := mv.os
        show wpAny _ _ _ _ _ _
        refine wpAny_pure ?_
        show wpAny _ _ (ret Value.none) _ _ _
        refine wpAny_pure ⟨rfl, h', tk', rfl, hS2, fun b o hb e => mv.heap b o (fun z => ?_) (Heap.get?_push_of_some _ (Heap.get?_push_of_some _ e))⟩
        simp only [List.mem_cons, List.not_mem_nil, or_false, Heap.size_push] at z
        rcases z with z | z
        · exact absurd z (Nat.ne_of_lt hb)
        · exact absurd z (Nat.ne_of_lt (Nat.lt_succ_of_lt hb))
    · match r2, hr2 with
      | .error e, hr2 => exact hr2
      | .ok .next, hr2 => exact hr2.elim
      | .ok .brk, hr2 => exact hr2.elim
      | .ok .cont, hr2 => exact hr2.elim
      | .ok (.ret r), hr2 =>
        obtain ⟨rfl, h', tk, rfl, hS2, kp⟩ := hr2
        repeat (any_goals (first | assumption | wp_step))
        exact q _ _ hS2 kp
end
end KX

set_option autoImplicit false
set_option maxRecDepth 100000
set_option maxHeartbeats 4000000
namespace KX
open PySem PySem.Spec PyProof.Rows L2
theorem strs_vals : ∀ {zs : List Str} {us : List Value}, Vals (zs.map V.str) us → ∀ (i : Nat) (u : Value), us[i]? = some u → ∃ (z : Str) (t : Tok), zs[i]? = some z ∧ u = .str z t
  | [], _, .nil, i, u, h => by simp at h
  | z :: zs, _, .cons r t, 0, u, h => by
    obtain ⟨k, e⟩ := r
    rw [List.getElem?_cons_zero] at h
    cases h
    exact ⟨z, k, rfl, e⟩
  | z :: zs, _, .cons r t, i + 1, u, h => by
    rw [List.getElem?_cons_succ] at h
    obtain ⟨y, k, e1, e2⟩ := strs_vals t i u h
    exact ⟨y, k, by rw [List.getElem?_cons_succ]; exact e1, e2⟩
/-- len(set(words)) -/
def tLenWords (K : PySem.W.Frag) (ta : TE) : TE := fun σ H Q => ta σ H fun x H1 => ∃ (l : Addr) (zs : List Str), x = .ref l ∧ (SqL K H1 l (zs.map V.str) ∨ SqT K H1 l (zs.map V.str)) ∧ zs.length ≤ 1000 ∧ Q (.int ((once zs).length : Nat)) H1
theorem pe_lenWords {X : Cx} {a : Expr} {ta : TE} {p p2 q pos : Pos} (hg : Gl X "len") (hm : X.mg "len" = none) (hg2 : Gl X "set") (hm2 : X.mg "set" = none) (ha : PE X a ta) (hc : X.calm = true := by rfl)
    (na : starEach [a] X.env = (false, eval a X.env) :: starEach [] X.env := by rfl) : PE X (.Call (.Name "len" p) [.Call (.Name "set" p2) [a] [] q] [] pos) (tLenWords X.K ta) := by
  refine ⟨fun pins s σ H Q I h => ?_⟩
  refine Call_ (ld_blt I hg hm boot_len (PyProof.Rows.callWith_builtin1 (PyProof.Rows.args_cons ?_ rfl) rfl rfl))
  refine Call_ (ld_blt I hg2 hm2 boot_set ?_)
  refine PyProof.Rows.callWith_type1 (PyProof.Rows.args_cons (thn (ha.run pins s σ H _ I h) fun v s1 ⟨x, H1, I1, r1, q1⟩ => PyProof.Rows.args_nil ?_) na) na rfl
  obtain ⟨l, zs, rfl, hq, few, q1⟩ := q1
  obtain rfl : v = Value.ref l := r1
  have last : ∀ (h' : Heap) (tk : Nat), h'.SetOf (PySem.strKind X.prog X.w) s1.heap.objs.size (fun y => decide (y ∈ once zs)) (once zs).length → (∀ b o, b < s1.heap.objs.size → s1.heap.get? b = some o → h'.get? b = some o) →
      wpAny (model X.prog X.w) X.A (spliced (backTo pos (starEach [] X.env))) (fun vs s2 => wpAny (model X.prog X.w) X.A (call (.builtin "len") (Value.ref s1.heap.objs.size :: vs)) (EP X pins σ Q) X.xe s2) X.xe { s1 with heap := h', toks := tk } := fun h' tk y kp => by
    refine PyProof.Rows.args_nil ?_
    obtain ⟨o, es, ep, t, ho, hex, hd, _, _, _, hf, hn⟩ := y
    have I2 : Inv X pins σ H1 { s1 with heap := h', toks := tk } := I1.kept fun b o e => kp b o (Heap.lt_size e) e
    have le := once_le zs
    exact call_len_set ho hex hd hf (by rw [hn]; omega) ⟨.int (once zs).length, H1, I2.tok _, ⟨_, by rw [hn]⟩, q1⟩
  rcases hq with hq | hq
  · obtain ⟨its, r, pl, hz⟩ := I1.list hq
    have ln : zs.length = its.length := by have := Paired.length r; rw [List.length_map] at this; exact this
    refine set_of_list (PySem.strKind X.prog X.w) (ks := zs) (I1.ok.hd hc) pl.isList (by rw [List.size_toArray]; exact ln) (by rw [List.size_toArray]; unfold scanBound; omega) (fun i u hu => ?_) last
    obtain ⟨z, t, e1, rfl⟩ := strs_vals r i u (by rw [← List.getElem?_toArray]; exact hu)
    exact ⟨z, e1, strKind_is _ _ _ _, rfl⟩
  · obtain ⟨its, r, pl, hz⟩ := I1.tuple hq
    have ln : zs.length = its.length := by have := Paired.length r; rw [List.length_map] at this; exact this
    refine set_of_tuple (PySem.strKind X.prog X.w) (ks := zs) (I1.ok.hd hc) pl (by rw [List.size_toArray]; exact ln) (by rw [List.size_toArray]; unfold scanBound; omega) (fun i u hu => ?_) last
    obtain ⟨z, t, e1, rfl⟩ := strs_vals r i u (by rw [← List.getElem?_toArray]; exact hu)
    exact ⟨z, e1, strKind_is _ _ _ _, rfl⟩
end KX

set_option autoImplicit false
set_option maxRecDepth 100000
set_option maxHeartbeats 4000000
/-! sets whose members can be gathered again: the table's order is kept in sight -/
namespace KX
open PySem PySem.Spec PyProof.Rows L2
section
variable {prog : Program} {w : World} {κ : Type} [DecidableEq κ]
/-- a set of keys, with its table in order -/
def SetK (knd : KeyKind prog w κ) (h : Heap) (a : Addr) (M : κ → Bool) (n : Nat) : Prop :=
  ∃ ob els ep tab, h.get? a = some ob ∧ ob.ExactSet ∧ ob.data = .set els ep tab ∧ ElemsOf knd els.toList ∧ (∀ k, M k = true ↔ ∃ e ∈ els.toList, knd.is k e.2 = true) ∧
    els.size < scanBound ∧ tab.fits els.size = true ∧ els.size = n ∧ Ris tab.place.toList ∧ (w.params.followText "set-order" = true ∨ tab.led = true)
variable {knd : KeyKind prog w κ} {A : Around} {E : Value → Shared → Prop} {s : Shared} {a : Addr} {M : κ → Bool} {n : Nat}
theorem SetK.kept {h h' : Heap} (y : SetK knd h a M n) (k : ∀ o, h.get? a = some o → h'.get? a = some o) : SetK knd h' a M n := by
  obtain ⟨ob, els, ep, tab, ho, rest⟩ := y
  exact ⟨ob, els, ep, tab, k ob ho, rest⟩
theorem SetK.as {h : Heap} {M' : κ → Bool} {n' : Nat} (y : SetK knd h a M n) (e : ∀ k, M' k = M k) (en : n' = n) : SetK knd h a M' n' := by
  have q : M' = M := funext e
  rw [q, en]
  exact y
/-- what is done once the new members and the new table are known -/
theorem lay_k {gv : Bool → Sem Unit} (free : ∀ (b : Bool) (s1 : Shared) (R : Unit → Shared → Prop), R () s1 → wpAny (model prog w) A (gv b) R E s1) {ob : Obj} {els fresh : Array (Int × Value)} {ep : Nat} {tab tab2 : SetTable} {M' : κ → Bool}
    (ho : s.heap.get? a = some ob) (ex : ob.ExactSet) (hd : ob.data = .set els ep tab) (el : ElemsOf knd fresh.toList) (mem : ∀ k, M' k = true ↔ ∃ e ∈ fresh.toList, knd.is k e.2 = true) (small : fresh.size < scanBound) (fit : tab2.fits fresh.size = true)
    (ris : Ris tab2.place.toList) (led : w.params.followText "set-order" = true ∨ tab2.led = true) {dm : Bool} {R : Option Bool → Shared → Prop} (q : ∀ h', Heap.SameBut a s.heap h' → SetK knd h' a M' fresh.size → R (some true) { s with heap := h' }) :
    wpAny (model prog w) A (do
        storeSet a fresh tab2
        if (!dm && tab2.tooFull) = true then do
            gv (relayAll tab2 fresh (SetTable.grown fresh.size)).2.2
            storeSet a (relayAll tab2 fresh (SetTable.grown fresh.size)).1 (relayAll tab2 fresh (SetTable.grown fresh.size)).2.1
            pure (some true)
          else pure (some true)) R E s := by
  have at1 := store_at (es' := fresh) (t' := tab2) ho hd
  have but1 := Heap.SameBut.update s.heap a (Obj.putSet fresh tab2)
  refine wpAny_bind (wpAny_storeSet_of ho hd ?_ (fits_of_scanBound small))
  split
  · have perm := relayAll_perm tab2 fresh (SetTable.grown fresh.size)
    have fit3 := relayAll_fits tab2 fresh (SetTable.grown fresh.size)
    have ris3 := relayAll_ris tab2 fresh (SetTable.grown fresh.size)
    have led3 := relayAll_led tab2 fresh (SetTable.grown fresh.size)
    generalize relayAll tab2 fresh (SetTable.grown fresh.size) = Y at perm fit3 ris3 led3 ⊢
    obtain ⟨last, tab3, gave⟩ := Y
    dsimp only at perm fit3 ris3 led3 ⊢
    have size : last.size = fresh.size := by rw [← Array.length_toList, perm.length_eq, Array.length_toList]
    have small2 : last.size < scanBound := by omega
    refine wpAny_bind (free _ _ _ ?_)
    refine wpAny_bind (wpAny_storeSet_of at1 rfl ?_ (fits_of_scanBound small2))
    have at2 := store_at (es' := last) (t' := tab3) at1 rfl
    refine wpAny_pure (q _ (but1.trans (Heap.SameBut.update _ a _)) ?_)
    refine ⟨_, last, _, tab3, at2, ex, rfl, fun e he => el e (perm.mem_iff.mp he), fun k => ?_, small2, fit3, size, ris3, led.imp id fun z => by rw [led3]; exact z⟩
    rw [mem k]
    exact ⟨fun ⟨e, he, h⟩ => ⟨e, perm.mem_iff.mpr he, h⟩, fun ⟨e, he, h⟩ => ⟨e, perm.mem_iff.mp he, h⟩⟩
  · exact wpAny_pure (q _ but1 ⟨_, fresh, _, tab2, at1, ex, rfl, el, mem, small, fit, rfl, ris, led⟩)
theorem add_k {k : κ} {v : Value} {Q : Bool → Shared → Prop} (key : knd.is k v = true) (sc : v.scannable = true) (y : SetK knd s.heap a M n) (room : n + 1 < scanBound)
    (q : ∀ h', Heap.SameBut a s.heap h' → SetK knd h' a (fun j => M j || decide (j = k)) (if M k = true then n else n + 1) → Q (!M k) { s with heap := h' }) :
    wpAny (model prog w) A (setAddHashed a v (knd.hash k)) Q E s := by
  obtain ⟨ob, els, ep, tab, ho, ex, hd, el, mem, small, fit, size, ris, led⟩ := y
  unfold setAddHashed setAddHashedIn
  refine wpAny_holding (wpAny_bind (wpAny_setState_of ho hd fit ?_))
  dsimp only
  rw [byScan_of sc small el]
  simp only [↓reduceIte]
  unfold setAddByScan
  refine wpAny_bind (wpAny_bind (wpAny_rule (wpAny_bind (wpAny_setScan_of key ho hd fit el ?_))))
  have one : ∀ {e : Value} {j : κ}, knd.is k e = true → (knd.is j e = true ↔ j = k) := fun {e j} h => by
    have := KeyKind.is_eq_decide h j
    rw [this, decide_eq_true_eq]
  cases found : List.findIdx? (fun e => knd.is k e.2) els.toList with
  | some j =>
    dsimp only
    obtain ⟨hj, pj, _⟩ := List.findIdx?_eq_some_iff_getElem.mp found
    have mk : M k = true := (mem k).2 ⟨els.toList[j], List.getElem_mem hj, pj⟩
    refine wpAny_pure (wpAny_pure ?_)
    have z := q s.heap (Heap.SameBut.refl a s.heap) ⟨ob, els, ep, tab, ho, ex, hd, el, fun i => by
      rw [Bool.or_eq_true, decide_eq_true_eq, ← mem i]
      exact ⟨fun h => h.elim id fun e => e ▸ mk, .inl⟩, small, fit, by rw [if_pos mk]; exact size, ris, led⟩
    rw [mk] at z
    exact z
  | none =>
    dsimp only
    have mk : M k = false := by
      cases e : M k with
      | false => rfl
      | true =>
        obtain ⟨x, hx, h⟩ := (mem k).1 e
        have c := List.findIdx?_eq_none_iff.mp found x hx
        rw [h] at c
        cases c
    have gave : ∀ (b : Bool) {s1 : Shared} {R : Unit → Shared → Prop}, R () s1 → wpAny (model prog w) A (match b with | true => rule "set.scan.the-table-gave-way" | false => pure ()) R E s1 := fun b s1 R z => by
      cases b with
      | true => exact wpAny_rule z
      | false => exact wpAny_pure z
    have perm := layNew_perm tab els (knd.hash k) v
    have fit1 := layNew_fits tab els (knd.hash k) v
    have ris1 := layNew_ris tab els (knd.hash k) v ris
    have led1 := layNew_led tab els (knd.hash k) v
    generalize layNew tab els (knd.hash k) v = Y at perm fit1 ris1 led1 ⊢
    obtain ⟨els1, tab1, dm, gv⟩ := Y
    dsimp only at perm fit1 ris1 led1 ⊢
    rw [Array.toList_push] at perm
    have perm1 : els1.toList.Perm ((knd.hash k, v) :: els.toList) := perm.trans (List.perm_append_singleton _ _)
    have el1 : ElemsOf knd els1.toList := fun e he => by
      rcases List.mem_cons.mp (perm1.mem_iff.mp he) with z | z
      · rw [z]
        exact ⟨⟨k, key, rfl⟩, sc⟩
      · exact el e z
    have mem1 : ∀ i, (M i || decide (i = k)) = true ↔ ∃ e ∈ els1.toList, knd.is i e.2 = true := fun i => by
      rw [Bool.or_eq_true, decide_eq_true_eq, mem i]
      constructor
      · rintro (⟨e, he, h⟩ | rfl)
        · exact ⟨e, perm1.mem_iff.mpr (List.mem_cons_of_mem _ he), h⟩
        · exact ⟨_, perm1.mem_iff.mpr List.mem_cons_self, key⟩
      · rintro ⟨e, he, h⟩
        rcases List.mem_cons.mp (perm1.mem_iff.mp he) with z | z
        · rw [z] at h
          exact .inr ((one key).1 h)
        · exact .inl ⟨e, z, h⟩
    have size1 : els1.size = n + 1 := by rw [← Array.length_toList, perm1.length_eq, List.length_cons, Array.length_toList, size]
    have small1 : els1.size < scanBound := by omega
    have led2 : w.params.followText "set-order" = true ∨ tab1.led = true := led.imp id fun z => by rw [led1]; exact z
    have fin : ∀ h', Heap.SameBut a s.heap h' → SetK knd h' a (fun j => M j || decide (j = k)) els1.size → Q true { s with heap := h' } := fun h' sb r => by
      have z := q h' sb
      rw [mk] at z
      rw [size1] at r
      exact z r
    refine wpAny_bind (gave _ ?_)
    split
    · refine wpAny_bind ?_
      rw [hashByValue_scannable 8 sc]
      refine wpAny_pure (lay_k (knd := knd) (fun b s1 R z => ?_) ho ex hd el1 mem1 small1 ?_ ?_ ?_ fun h' sb r => ?_)
      · cases b <;> first | exact wpAny_pure z | exact wpAny_rule z
      · first | (split <;> first | exact fit1 | exact SetTable.fits_plain_off fit1) | exact fit1
      · first | (split <;> exact ris1) | exact ris1
      · first | (split <;> exact led2) | exact led2
      · dsimp only
        exact wpAny_pure (fin h' sb r)
    · refine wpAny_bind (wpAny_pure ?_)
      simp only [↓reduceIte]
      refine lay_k (knd := knd) (fun b s1 R z => ?_) ho ex hd el1 mem1 small1 fit1 ris1 led2 fun h' sb r => ?_
      · cases b <;> first | exact wpAny_pure z | exact wpAny_rule z
      · dsimp only
        exact wpAny_pure (fin h' sb r)
theorem new_k {h : Heap} (ho : h.get? a = some { cls := .type "set", dict := none, data := .set #[] 0 (.fresh 0 0 (!w.params.followText "set-order")) }) : SetK knd h a (fun _ => false) 0 := by
  refine ⟨_, #[], 0, _, ho, ⟨rfl, rfl, rfl⟩, rfl, fun e he => by simp at he, fun k => by simp, by decide, by rfl, rfl, List.Pairwise.nil, ?_⟩
  show _ ∨ (!w.params.followText "set-order") = true
  cases w.params.followText "set-order" with
  | true => exact .inl rfl
  | false => exact .inr rfl
end
end KX

set_option autoImplicit false
set_option maxRecDepth 100000
set_option maxHeartbeats 4000000
/-! set(list) whose members can be gathered again; sorted(set(list of texts)) -/
namespace KX
open PySem PySem.Spec PyProof.Rows L2
section
variable {prog : Program} {w : World} {κ : Type} [DecidableEq κ] {knd : KeyKind prog w κ} {A : Around} {R : Result → Shared → Prop} {I : Addr} {fp wr : List Addr} {G : Array GenState → Array GenState → Prop} {n : Nat} {P : Nat → Value → Prop} {St : Nat → Shared → Prop}
theorem fill_k (W : WalksS prog w A.in1 I fp wr G n P St) (S : Addr) (out : S ∉ fp) (ks : List κ) (len : ks.length = n) (few : n + 1 < scanBound) (is : ∀ i v, P i v → ∃ k, ks[i]? = some k ∧ knd.is k v = true ∧ v.scannable = true) :
    ∀ (k i : Nat) (s : Shared), n - i = k → i ≤ n → St i s → SetK knd s.heap S (fun y => decide (y ∈ once (ks.take i))) (once (ks.take i)).length →
      (∀ s', Moved (S :: wr) G s s' → SetK knd s'.heap S (fun y => decide (y ∈ once ks)) (once ks).length → R (.ok (.ret .none)) s') →
      codeAny (model prog w) A (.builtin "set.update.loop" ⟨[.ref S, .ref I], []⟩) R s := by
  have out2 : S ∉ wr := fun h => out (W.sub _ h)
  have wider : ∀ b ∈ wr, b ∈ S :: wr := fun b hb => List.mem_cons_of_mem _ hb
  intro k
  induction k with
  | zero =>
    intro i s hk hi st hS hR
    obtain rfl : i = n := by omega
    refine codeAny_builtin PyProof.Rows.F.entry_set_update_loop ?_
    rw [Around.under_plainId PyProof.Rows.F.plain_set_update_loop _]
    show wpAny _ A.in1 (pyNext (.ref I) >>= _) _ _ s
    refine wpAny_bind (W.done s _ _ st fun s' mv => ?_)
    show wpAny _ A.in1 (ret Value.none) _ _ s'
    refine wpAny_pure (hR s' (mv.mono wider) ?_)
    rw [← len, List.take_length] at hS
    obtain ⟨o, es, ep, t, ho, y⟩ := hS
    exact ⟨o, es, ep, t, mv.heap S _ out2 ho, y⟩
  | succ k ih =>
    intro i s hk hi st hS hR
    have lt : i < n := by omega
    refine codeAny_builtin PyProof.Rows.F.entry_set_update_loop ?_
    rw [Around.under_plainId PyProof.Rows.F.plain_set_update_loop _]
    show wpAny _ A.in1 (pyNext (.ref I) >>= _) _ _ s
    refine wpAny_bind (W.item i s _ _ lt st fun v s' hP st' mv => ?_)
    obtain ⟨x, hx, hkey, sc⟩ := is i v hP
    have hS1 : SetK knd s'.heap S (fun y => decide (y ∈ once (ks.take i))) (once (ks.take i)).length := by
      obtain ⟨o, es, ep, t, ho, y⟩ := hS
      exact ⟨o, es, ep, t, mv.heap S _ out2 ho, y⟩
    show wpAny _ A.in1 (holding [v] (setAdd S v) >>= _) _ _ s'
    refine wpAny_bind (wpAny_holding ?_)
    unfold setAdd
    refine wpAny_holding (wpAny_bind (knd.pyHash hkey ?_))
    have small : (once (ks.take i)).length + 1 < scanBound := by
      have y := once_le (ks.take i)
      rw [List.length_take] at y
      omega
    refine add_k (knd := knd) (s := { s' with toks := s'.toks + 1 }) hkey sc hS1 small fun h' sb hS2 => ?_
    have hS3 : SetK knd h' S (fun y => decide (y ∈ once (ks.take (i + 1)))) (once (ks.take (i + 1))).length := by
      have e : ks.take (i + 1) = ks.take i ++ [x] := by rw [List.take_add_one, hx]; rfl
      refine hS2.as (fun y => ?_) ?_
      · rw [e, once_snoc]
        by_cases m : x ∈ once (ks.take i)
        · rw [if_pos m]
          by_cases z : y = x
          · rw [z, decide_eq_true m]
            rfl
          · rw [decide_eq_false z, Bool.or_false]
        · rw [if_neg m]
          by_cases z : y = x
          · rw [z]
            simp
          · simp [z]
      · rw [e, once_snoc]
        by_cases m : x ∈ once (ks.take i)
        · rw [if_pos m, if_pos (decide_eq_true m)]
        · rw [if_neg m, if_neg (by rw [decide_eq_false m]; exact Bool.false_ne_true)]
          simp
    refine wpAny_pure ⟨plainId_quiet PyProof.Rows.F.plain_set_update_loop _, ih (i + 1) _ (by omega) lt (W.frame _ s' _ _ st' (Nat.le_succ _) fun b hb o e => ?_) hS3 fun s'' mv2 hS4 => ?_⟩
    · rw [sb.2 b (fun z : b = S => out (by rw [← z]; exact hb))]
      exact e
    · refine hR s'' (Moved.trans W.gtrans ((mv.mono wider).then_heap (Nat.le_succ _) fun b o hb e => ?_) mv2) hS4
      rw [sb.2 b (fun z : b = S => hb (by rw [z]; exact List.mem_cons_self))]
      exact e
end
section
variable {prog : Program} {w : World} {A : Around} {E : Value → Shared → Prop} {s : Shared}
abbrev setNewK (w : World) : Obj := { cls := .type "set", dict := none, data := .set #[] 0 (.fresh 0 0 (!w.params.followText "set-order")) }
theorem set_list_k {κ : Type} [DecidableEq κ] (knd : KeyKind prog w κ) {l : Addr} {items : Array Value} {ks : List κ} {Q : Value → Shared → Prop} (hh : A.handled = none) (seq : s.heap.IsList l items) (len : ks.length = items.size) (few : items.size + 1 < scanBound)
    (is : ∀ (i : Nat) (v : Value), items[i]? = some v → ∃ k, ks[i]? = some k ∧ knd.is k v = true ∧ v.scannable = true)
    (q : ∀ (h' : Heap) (tk : Nat), SetK knd h' s.heap.objs.size (fun y => decide (y ∈ once ks)) (once ks).length → (∀ b o, b < s.heap.objs.size → s.heap.get? b = some o → h'.get? b = some o) → Q (.ref s.heap.objs.size) { s with heap := h', toks := tk }) :
    wpAny (model prog w) A (call (.type "set") [.ref l]) Q E s := by
  obtain ⟨c0, t0, y_mro⟩ := PySem.F.called_set.mro
  have y_made := PySem.F.called_set.made
  have y_sub := PySem.F.called_set.sub
  refine wpAny_call (codeAny_of_tree ?_)
  show wpAny _ _ (callAny (.type "set") _) _ _ _
  refine wpAny_pure ⟨Code.quiet_builtin _ (by decide +kernel), codeAny_builtin PySem.F.entry_type_call ?_⟩
  rw [Around.under_plain (weight_type_call_type "set" [.ref l] []) rfl]
  have y_not := PySem.F.called_set.notType
  have y_can := PySem.F.called_set.canCreate
  have y_chk := PySem.F.typeCall_set_1 (.ref l)
  repeat (any_goals (first | assumption | wp_step))

  refine codeAny_mono (code_set_led1 (.ref l) (E := E) (Q₁ := fun y s1 => y = .ref s.heap.objs.size ∧ s1 = { s with heap := s.heap.push (setNewK w) }) ⟨rfl, rfl⟩) fun r s1 hr => ?_
  match r, hr with
  | .error e, hr => exact hr
  | .ok .next, hr => exact hr.elim
  | .ok .brk, hr => exact hr.elim
  | .ok .cont, hr => exact hr.elim
  | .ok (.ret y), hr =>
    obtain ⟨rfl, rfl⟩ := hr
    have hS : (s.heap.push (setNewK w)).get? s.heap.objs.size = some (setNewK w) := Heap.get?_push_size _ rfl
    have hT : Shared.TypeIs { s with heap := s.heap.push (setNewK w) } (.ref s.heap.objs.size) "set" := ⟨_, hS, rfl⟩
    have y_look := PySem.F.called_set.init.lookup
    have y_bind := PySem.F.called_set.init.bind (.ref s.heap.objs.size)
    repeat (any_goals (first | assumption | wp_step))

    refine codeAny_mono (codeAny_call_builtin (R := wants (fun r s2 => r = .none ∧ ∃ h' tk, s2 = { s with heap := h', toks := tk } ∧ SetK knd h' s.heap.objs.size (fun y => decide (y ∈ once ks)) (once ks).length ∧
        (∀ b o, b < s.heap.objs.size → s.heap.get? b = some o → h'.get? b = some o)) E) PySem.F.called_set.init.plain PySem.F.entry_set_init (check_set_init_1 hT ?_)) fun r2 s2 hr2 => ?_
    · obtain ⟨ol, hol, oc, nl, od⟩ := seq
      obtain ⟨o1, o2, o3, o4⟩ := ol
      dsimp only at oc od
      subst oc od
      have there : (s.heap.push (setNewK w)).get? l = some { cls := .type "list", dict := o2, data := .seq items nl, slots := o4 } := Heap.get?_push_of_some _ hol
      have y_s1 := PySem.F.sub_list_set
      have y_s2 := PySem.F.sub_list_frozenset
      have y_ne : (Value.type "list" == Value.type "dict") = false := by decide
      have seq1 : (s.heap.push (setNewK w)).IsList l items := ⟨_, there, rfl, nl, rfl⟩
      unfold Builtin.«set.__init__» noKeywords Builtin.Frozenset.updateFrom
      generalize y_it : pyIter = PI
      wp_walk
      subst y_it

      refine wpAny_pyIter_list seq1 (wpAny_bind (wpAny_runValue ?_))
      have low : l < s.heap.objs.size := Heap.lt_size hol
      have hh3 : A.in1.in1.in1.handled = none := by simp [hh]
      have apart : l ≠ (s.heap.push (setNewK w)).objs.size := by
        rw [Heap.size_push]
        exact Nat.ne_of_lt (Nat.lt_succ_of_lt low)
      have out : s.heap.objs.size ∉ [(s.heap.push (setNewK w)).objs.size, l] := by
        intro z
        rw [Heap.size_push] at z
        rcases List.mem_cons.mp z with z | z
        · exact absurd z (Nat.ne_of_lt (Nat.lt_succ_self _))
        · exact absurd (List.mem_singleton.mp z).symm (Nat.ne_of_lt low)
      refine fill_k (knd := knd) ((Walks.list hh3 _ l apart items).toS) s.heap.objs.size out ks len few (fun i v hv => is i v hv) (items.size - 0) 0 _ (by omega) (Nat.zero_le _) ⟨⟨_, Heap.get?_push_size _ rfl, rfl, rfl⟩, (seq1.push _)⟩ ?_ ?_
      · have got : ((s.heap.push (setNewK w)).push { cls := .type "list_iterator", data := .fields #[.ref l, .int 0 0] }).get? s.heap.objs.size = some (setNewK w) := Heap.get?_push_of_some _ hS
        exact (new_k got).as (fun _ => rfl) rfl
      · rintro ⟨h', g', d', tk', os'⟩ mv hS2
        obtain rfl : g' = s.gens := mv.gens
        obtain rfl : d' = s.drawn := mv.drawn
        obtain rfl : os' = s.os := mv.os
        show wpAny _ _ _ _ _ _
        refine wpAny_pure ?_
        show wpAny _ _ (ret Value.none) _ _ _
        refine wpAny_pure ⟨rfl, h', tk', rfl, hS2, fun b o hb e => mv.heap b o (fun z => ?_) (Heap.get?_push_of_some _ (Heap.get?_push_of_some _ e))⟩
        simp only [List.mem_cons, List.not_mem_nil, or_false, Heap.size_push] at z
        rcases z with z | z
        · exact absurd z (Nat.ne_of_lt hb)
        · exact absurd z (Nat.ne_of_lt (Nat.lt_succ_of_lt hb))
    · match r2, hr2 with
      | .error e, hr2 => exact hr2
      | .ok .next, hr2 => exact hr2.elim
      | .ok .brk, hr2 => exact hr2.elim
      | .ok .cont, hr2 => exact hr2.elim
      | .ok (.ret r), hr2 =>
        obtain ⟨rfl, h', tk, rfl, hS2, kp⟩ := hr2
        repeat (any_goals (first | assumption | wp_step))
        exact q _ _ hS2 kp
end
end KX

set_option autoImplicit false
set_option maxRecDepth 100000
set_option maxHeartbeats 4000000
/-! sorted(set(list of texts)) -/
namespace KX
open PySem PySem.Spec PyProof.Rows L2
theorem str_key {prog : Program} {w : World} {k : Str} {v : Value} (h : (PySem.strKind prog w).is k v = true) : ∃ t, v = .str k t := by
  cases v with
  | str z t =>
    have h : Value.isStrOf k (.str z t) = true := h
    refine ⟨t, ?_⟩
    simp [Value.isStrOf] at h
    rw [h]
  | _ => simp [PySem.strKind, Value.isStrOf] at h
theorem nodup_count : ∀ {m l : List Str}, m.Nodup → (∀ x ∈ m, x ∈ l) → l.length = m.length → l.Perm m
  | [], l, _, _, e => by rw [List.length_eq_zero_iff.mp e]
  | x :: m, l, hm, h, e => by
    have hx := h x List.mem_cons_self
    obtain ⟨h1, h2⟩ := List.nodup_cons.mp hm
    have p := List.perm_cons_erase hx
    refine p.trans (List.Perm.cons x (nodup_count h2 (fun y hy => ?_) ?_))
    · exact (List.mem_erase_of_ne (fun z : y = x => h1 (by rw [← z]; exact hy))).mpr (h y (List.mem_cons_of_mem _ hy))
    · have := p.length_eq
      rw [List.length_cons] at this e
      omega
theorem once_nodup' (ks : List Str) : (once ks).Nodup := by
  have go : ∀ (ks acc : List Str), acc.Nodup → (ks.foldl (fun acc k => if k ∈ acc then acc else acc ++ [k]) acc).Nodup := fun ks => by
    induction ks with
    | nil => exact fun acc h => h
    | cons y ys ih =>
      intro acc h
      rw [List.foldl_cons]
      refine ih _ ?_
      by_cases m : y ∈ acc
      · rw [if_pos m]; exact h
      · rw [if_neg m]
        refine List.nodup_append.mpr ⟨h, List.pairwise_singleton _ _, fun x hx z hz => ?_⟩
        rw [List.mem_singleton] at hz
        subst hz
        exact fun e => m (e ▸ hx)
  exact go ks [] List.nodup_nil
section
variable {prog : Program} {w : World} {A : Around} {E : Value → Shared → Prop} {s : Shared} {a : Addr}
theorem sorted_k {ks : List Str} {Q : Value → Shared → Prop} (y : SetK (PySem.strKind prog w) s.heap a (fun z => decide (z ∈ once ks)) (once ks).length) (hh : A.handled = none) (few : (once ks).length < 64)
    (q : ∀ s' p (out : Array Value) (c : Nat) (zs : List Str), (∀ b o, s.heap.get? b = some o → s'.heap.get? b = some o) → s'.gens = s.gens → s'.os = s.os → s.heap.objs.size ≤ p →
      s'.heap.get? p = some (seqObj "list" out c) → StrsAre out.toList zs → zs.Perm (once ks) → sortedS zs = true → Q (.ref p) s') :
    wpAny (model prog w) A (call (.builtin "sorted") [.ref a]) Q E s := by
  obtain ⟨ob, els, ep, tab, ho, ex, hd, el, mem, small, fit, size, ris, led⟩ := y
  refine Calls.call_function_entry kind_sorted plain_sorted entry_sorted (args_sorted1 _) ?_
  unfold Builtin.«sorted»
  refine wpAny_bind (m := checkCount "sorted" 1 1 _) (wpAny_pure ?_)
  refine wpAny_bind (collect_set (A := A.in1) hh ⟨ob, ho, ex.1, hd⟩ fit small ris led fun s1 vs kp hz g1 o1 pm => ?_)
  have ln : vs.length = (once ks).length := by rw [pm.length_eq, List.length_map, Array.length_toList]; exact size
  have all : ∀ v ∈ vs, ∃ x t, v = .str x t := fun v hv => by
    obtain ⟨e, he, rfl⟩ := List.mem_map.mp (pm.mem_iff.mp hv)
    obtain ⟨⟨k, h1, _⟩, _⟩ := el e he
    obtain ⟨t, h⟩ := str_key h1
    exact ⟨k, t, h⟩
  have hS := strsAre_map vs all
  have perm : (vs.map strOf).Perm (once ks) := by
    refine nodup_count (once_nodup' ks) (fun z hz => ?_) (by rw [List.length_map, ln])
    obtain ⟨e, he, h⟩ := (mem z).1 (decide_eq_true hz)
    obtain ⟨t, h⟩ := str_key h
    refine List.mem_map.mpr ⟨e.2, pm.mem_iff.mpr (List.mem_map.mpr ⟨e, he, rfl⟩), ?_⟩
    rw [h]
    rfl
  refine wpAny_bind (wpAny_newList ?_ (by rw [ln, sizeLine_eq]; omega))
  have hoL : (s1.heap.push (seqObj "list" vs.toArray 0)).get? s1.heap.objs.size = some (seqObj "list" vs.toArray 0) := Heap.get?_push_size _ rfl
  refine wpAny_bind (wpAny_holding (wpAny_call_entry slot_list_sort ⟨_, hoL, rfl⟩ entry_list_sort (list_sort_treeK strKind_oneLt hoL hS.keysOf (fun v1 v2 rest e => keyKind_strs (by rw [← e]; exact hS)) (by rw [ln]; exact few) fun st' a1 a2 => ⟨_, rfl, ?_⟩) (args_list_sort _)))
  obtain ⟨zs, h1, h2, h3⟩ := sorted_out_str hS a1 a2
  obtain ⟨c, hc⟩ := sortedHeap_at (vs := vs) (out := (arrOf st').map (·.2)) hoL
  refine wpAny_pure ⟨_, rfl, q _ s1.heap.objs.size _ c zs (fun b u e => ?_) g1 o1 hz hc h1 (h2.trans perm) h3⟩
  have old := kp b u e
  have lt := Heap.lt_size old
  show (sortedHeap (s1.heap.push (seqObj "list" vs.toArray 0)) s1.heap.objs.size vs _).get? b = some u
  rw [sortedHeap_old (Nat.ne_of_lt lt) (by rw [size_push']; exact Nat.lt_succ_of_lt lt)]
  exact Heap.get?_push_of_some _ old
end
end KX

set_option autoImplicit false
set_option maxRecDepth 100000
set_option maxHeartbeats 4000000
/-! sorted(set(e)) as a term of rules -/
namespace KX
open PySem PySem.Spec PyProof.Rows L2
def tSortSet (K : PySem.W.Frag) (ta : TE) : TE := fun σ H Q => ta σ H fun x H1 => ∃ (l : Addr) (zs : List Str), x = .ref l ∧ SqL K H1 l (zs.map V.str) ∧ zs.length ≤ 1000 ∧ (once zs).length < 64 ∧
  ∀ (ys : List Str) (p : Addr), ys.Perm (once zs) → sortedS ys = true → H1 p = none → Q (.ref p) (upd H1 p (.lst (ys.map V.str)))
theorem boot_sorted : bootBuiltins "sorted" = some (.builtin "sorted") := by decide +kernel
theorem pe_sortSet {X : Cx} {a : Expr} {ta : TE} {p p2 q pos : Pos} (hg : Gl X "sorted") (hm : X.mg "sorted" = none) (hg2 : Gl X "set") (hm2 : X.mg "set" = none) (ha : PE X a ta) (hc : X.calm = true := by rfl)
    (na : starEach [a] X.env = (false, eval a X.env) :: starEach [] X.env := by rfl) : PE X (.Call (.Name "sorted" p) [.Call (.Name "set" p2) [a] [] q] [] pos) (tSortSet X.K ta) := by
  refine ⟨fun pins s σ H Q I h => ?_⟩
  refine Call_ (ld_blt I hg hm boot_sorted (PyProof.Rows.callWith_builtin1 (PyProof.Rows.args_cons ?_ rfl) rfl rfl))
  refine Call_ (ld_blt I hg2 hm2 boot_set ?_)
  refine PyProof.Rows.callWith_type1 (PyProof.Rows.args_cons (thn (ha.run pins s σ H _ I h) fun v s1 ⟨x, H1, I1, r1, q1⟩ => PyProof.Rows.args_nil ?_) na) na rfl
  obtain ⟨l, zs, rfl, hq, few, f64, q1⟩ := q1
  obtain rfl : v = Value.ref l := r1
  obtain ⟨its, r, pl, hz⟩ := I1.list hq
  have ln : zs.length = its.length := by have := Paired.length r; rw [List.length_map] at this; exact this
  refine set_list_k (PySem.strKind X.prog X.w) (ks := zs) (I1.ok.hd hc) pl.isList (by rw [List.size_toArray]; exact ln) (by rw [List.size_toArray]; unfold scanBound; omega) (fun i u hu => ?_) fun h' tk y kp => ?_
  · obtain ⟨z, t, e1, rfl⟩ := strs_vals r i u (by rw [← List.getElem?_toArray]; exact hu)
    exact ⟨z, e1, strKind_is _ _ _ _, rfl⟩
  · refine PyProof.Rows.args_nil ?_
    have I2 : Inv X pins σ H1 { s1 with heap := h', toks := tk } := I1.kept fun b o e => kp b o (Heap.lt_size e) e
    refine sorted_k (s := { s1 with heap := h', toks := tk }) y (I1.ok.hd hc) f64 fun s' p out c ys k g o hp hg3 h1 h2 h3 => ?_
    have lny : (ys.map V.str).length ≤ sizeLine := by rw [List.length_map, h2.length_eq, sizeLine_eq]; omega
    have hn : H1 p = none := I2.hok.fresh hp
    have J : Inv X pins σ (upd H1 p (.lst (ys.map V.str))) { ({ s1 with heap := h', toks := tk } : Shared) with heap := s'.heap, gens := s'.gens, drawn := s'.drawn, toks := s'.toks } :=
      I2.call (ch := []) (Un.laid k hp hn) (I2.hok.laid k hp ⟨lny, out.toList, c, vals_of_strs h1, hg3⟩) (by rw [g]; exact I2.bare) (fun _ z => nomatch z)
    have e : s' = { s1 with heap := s'.heap, gens := s'.gens, drawn := s'.drawn, toks := s'.toks } := by
      cases s'
      cases s1
      cases o
      rfl
    rw [e]
    exact ⟨.ref p, _, J, rfl, q1 ys p h2 h3 hn⟩
/-- two sorted lists of the same texts are one -/
theorem sortedS_pair : ∀ {l : List Str}, sortedS l = true → l.Pairwise fun a b => ¬ b.cps.toList < a.cps.toList
  | [], _ => .nil
  | x :: l, h => by
    have go : ∀ (l : List Str) (x : Str), risingS x l = true → (∀ y ∈ l, ¬ y.cps.toList < x.cps.toList) ∧ l.Pairwise fun a b => ¬ b.cps.toList < a.cps.toList := fun l => by
      induction l with
      | nil => exact fun x _ => ⟨fun y hy => (by cases hy), .nil⟩
      | cons z l ih =>
        intro x h
        have h : (!ltCps z.cps.toList x.cps.toList && risingS z l) = true := h
        rw [Bool.and_eq_true, PyProof.Rows.ltCps_eq] at h
        obtain ⟨i1, i2⟩ := ih z h.2
        have h1 : ¬ z.cps.toList < x.cps.toList := by simpa using h.1
        refine ⟨fun y hy => ?_, List.pairwise_cons.mpr ⟨i1, i2⟩⟩
        rcases List.mem_cons.mp hy with rfl | hy
        · exact h1
        · exact fun k => by
            have a : x.cps.toList ≤ z.cps.toList := List.not_lt.mp h1
            have b : z.cps.toList ≤ y.cps.toList := List.not_lt.mp (i1 y hy)
            exact List.not_lt.mpr (List.le_trans a b) k
    obtain ⟨a, b⟩ := go l x h
    exact List.pairwise_cons.mpr ⟨a, b⟩
theorem sortedS_one : ∀ {l m : List Str}, l.Perm m → (l.Pairwise fun a b => ¬ b.cps.toList < a.cps.toList) → (m.Pairwise fun a b => ¬ b.cps.toList < a.cps.toList) → l = m
  | [], m, p, _, _ => (List.nil_perm.mp p).symm
  | x :: l, [], p, _, _ => nomatch List.nil_perm.mp p.symm
  | x :: l, y :: m, p, h1, h2 => by
    obtain ⟨a1, a2⟩ := List.pairwise_cons.mp h1
    obtain ⟨b1, b2⟩ := List.pairwise_cons.mp h2
    have e : x = y := by
      by_cases e : x = y
      · exact e
      · have hx : x ∈ m := by
          rcases List.mem_cons.mp (p.mem_iff.mp List.mem_cons_self) with h | h
          · exact absurd h e
          · exact h
        have hy : y ∈ l := by
          rcases List.mem_cons.mp (p.mem_iff.mpr List.mem_cons_self) with h | h
          · exact absurd h.symm e
          · exact h
        have c1 : x.cps.toList ≤ y.cps.toList := List.not_lt.mp (a1 y hy)
        have c2 : y.cps.toList ≤ x.cps.toList := List.not_lt.mp (b1 x hx)
        have c3 := List.le_antisymm c1 c2
        cases x
        cases y
        simp only at c3
        congr
        exact Array.toList_inj.mp c3
    subst e
    rw [sortedS_one (List.Perm.cons_inv p) a2 b2]
end KX

set_option autoImplicit false
set_option maxRecDepth 100000
set_option maxHeartbeats 4000000
namespace KX
open PySem PySem.Spec PyProof.Rows L2 HT
section
variable {prog : Program} {w : World} {A : Around} {E : Value → Shared → Prop} {s : Shared}
theorem fm_map {α β : Type} {f : α → Option β} {g : α → β} : ∀ l : List α, (∀ k ∈ l, f k = some (g k)) → l.filterMap f = l.map g
  | [], _ => rfl
  | x :: l, h => by
    rw [List.filterMap_cons, h x List.mem_cons_self, List.map_cons, fm_map l fun k hk => h k (List.mem_cons_of_mem _ hk)]
theorem pick_back (its : List Value) : (List.range its.length).filterMap (fun (k : Nat) => its.toArray[(((its.length : Int) - 1) + (k : Int) * -1).toNat]?) = its.reverse := by
  have e : ∀ k ∈ List.range its.length, its.toArray[(((its.length : Int) - 1) + (k : Int) * -1).toNat]? = some (its.reverse.getD k default) := fun k hk => by
    have hk' := List.mem_range.mp hk
    have e1 : (((its.length : Int) - 1) + (k : Int) * -1).toNat = its.length - 1 - k := by omega
    rw [e1, List.getElem?_toArray, List.getElem?_eq_getElem (by omega)]
    rw [List.getD_eq_getElem?_getD, List.getElem?_reverse (by omega), List.getElem?_eq_getElem (by omega)]
    rfl
  rw [fm_map _ e]
  refine List.ext_getElem? fun i => ?_
  rw [List.getElem?_map]
  by_cases h : i < its.length
  · rw [List.getElem?_range h]
    show some (its.reverse.getD i default) = _
    rw [List.getD_eq_getElem?_getD, List.getElem?_eq_getElem (by rw [List.length_reverse]; exact h)]
    rfl
  · rw [List.getElem?_eq_none (by rw [List.length_range]; omega), List.getElem?_eq_none (by rw [List.length_reverse]; omega)]
    rfl
theorem sliceApplied_back {sl : Addr} {u : Tok} {n : Nat} {Q : Int × Int × Nat → Shared → Prop} (hs : s.heap.IsSliceOf sl .none .none (.int (-1) u)) (h : Q ((n : Int) - 1, -1, n) s) : wpAny (model prog w) A (Builtin.Slice.sliceApplied (.ref sl) (pure (n : Int))) Q E s := by
  obtain ⟨os, hos, hcs, hds⟩ := id hs
  unfold Builtin.Slice.sliceApplied Builtin.Slice.sliceFields
  refine wpAny_bind (wpAny_bind (wpAny_field hos hds (x := .none) rfl (wpAny_bind (wpAny_field hos hds (x := .none) rfl (wpAny_bind (wpAny_field hos hds (x := .int (-1) u) rfl (wpAny_pure ?_)))))))
  refine wpAny_bind (slicePart_int ?_)
  show wpAny _ _ (if ((-1 : Int) == 0) = true then _ else _) _ _ s
  rw [if_neg (by decide)]
  refine wpAny_bind (slicePart_none (wpAny_bind (slicePart_none (wpAny_bind (wpAny_pure ?_)))))
  show wpAny _ _ (pure (((n : Int) - 1), (-1 : Int), Builtin.Slice.slicePlaces ((n : Int) - 1) (-1) (-1))) _ _ s
  have e : Builtin.Slice.slicePlaces ((n : Int) - 1) (-1) (-1) = n := by
    unfold Builtin.Slice.slicePlaces
    rw [if_neg (by decide)]
    by_cases h : (n : Int) - 1 > -1
    · rw [if_pos h]
      simp only [Int.neg_neg, Int.ediv_one]
      omega
    · rw [if_neg h]
      omega
  rw [e]
  exact wpAny_pure h
theorem getItem_back {t sl : Addr} {its : List Value} {u : Tok} {Q : Value → Shared → Prop} (ht : IsTup s.heap t its.toArray) (hs : s.heap.IsSliceOf sl .none .none (.int (-1) u))
    (h : Q (.ref s.heap.objs.size) { s with heap := s.heap.push { cls := .type "tuple", data := .seq its.reverse.toArray } }) (hsz : its.length ≤ sizeLine) : wpAny (model prog w) A (getItem (.ref t) (.ref sl)) Q E s := by
  have hsize : sizeOk (.seq its.reverse.toArray) := by
    show its.reverse.toArray.size ≤ sizeLine
    rw [List.size_toArray, List.length_reverse]
    exact hsz
  obtain ⟨os, hos, hcs, hds⟩ := id hs
  have hTs : s.TypeIs (.ref sl) "slice" := ⟨os, hos, hcs⟩
  unfold getItem
  try with_reducible refine wpAny_holding ?_
  first | refine wpAny_bind (wpAny_pure ?_) | skip
  refine wpAny_bind (wpAny_sequenceKey ht.typeIs (by decide) ?_)
  refine wpAny_bind (wpAny_callSpecial?_slot (name := Str.ofString "__getitem__") ht.typeIs PyProof.Rows.slot_tuple_getitem
    (wpAny_call_entry PyProof.Rows.slot_tuple_getitem ht.typeIs entry_tuple_getitem ?_ (args_tuple_getitem _ _)))
  show wpAny _ _ (Builtin.Tuple.tupleItemsOf (.ref t) >>= _) _ _ s
  refine wpAny_bind (tupleItemsOf_ ht ?_)
  refine wpAny_bind (wpAny_typeOf hTs ?_)
  rw [if_pos (by decide)]
  rw [List.size_toArray]
  refine wpAny_bind (sliceApplied_back hs ?_)
  have hno : ¬ ((((its.length : Int) - 1) == 0 && (-1 : Int) == 1 && its.length == its.length) = true) := by
    intro q
    rw [Bool.and_eq_true, Bool.and_eq_true] at q
    have := eq_of_beq q.1.2
    omega
  show wpAny _ _ (if (((its.length : Int) - 1) == 0 && (-1 : Int) == 1 && its.length == its.length) = true then _ else _) _ _ s
  rw [if_neg hno, pick_back]
  first
    | exact wpAny_bind (m := Builtin.Tuple.tupleExact _) (wpAny_newObj_type (wpAny_pure ⟨_, rfl, wpAny_pure h⟩) hsize)
    | exact wpAny_bind (m := Builtin.Tuple.tupleExact _) (wpAny_newObj_type (wpAny_bind (wpAny_pure (wpAny_pure ⟨_, rfl, wpAny_pure h⟩))) hsize)
    | exact wpAny_bind (wpAny_bind (m := Builtin.Tuple.tupleExact _) (wpAny_newObj_type (wpAny_pure (wpAny_pure ⟨_, rfl, wpAny_pure h⟩)) hsize))
    | exact wpAny_bind (wpAny_bind (m := Builtin.Tuple.tupleExact _) (wpAny_newObj_type (wpAny_pure ⟨_, rfl, wpAny_pure h⟩) hsize))
end
section
variable {X : Cx}
def tRevT (K : PySem.W.Frag) (te : TE) : TE := fun σ H Q => te σ H fun x H1 => ∃ a xs, x = .ref a ∧ SqT K H1 a xs ∧ ∀ p, H1 p = none → Q (.ref p) (upd H1 p (.tup xs.reverse))
/-- t[::-1] -/
theorem pe_tupBack {e : Expr} {te : TE} {k : Nat} {p1 p2 p3 pos : Pos} (he : PE X e te) : PE X (.Subscript e (.Slice none none (some (.UnaryOp .USub (.Constant (.int 1) k p1) p2)) p3) pos) (tRevT X.K te) := by
  refine ⟨fun pins s σ H Q I h => ?_⟩
  refine Subscript_ (thn (he.run pins s σ H _ I h) fun v s1 ⟨x, H1, I1, r1, q1⟩ => ?_)
  obtain ⟨a, xs, ex, hx, q⟩ := q1
  subst ex
  cases r1
  have hst : PE X (.UnaryOp .USub (.Constant (.int 1) k p1) p2) (tUn (rU fun i => .int (-i)) (tC (.int 1))) := pe_un un_neg pe_int
  refine wpAny_Slice ?_
  rw [evalPart_none]
  refine wpAny_pure ?_
  refine wpAny_pure ?_
  rw [evalPart_some]
  refine thn (hst.run pins s1 σ H1 (fun y H4 => y = .int (-1) ∧ H4 = H1) I1 ⟨1, rfl, rfl, rfl⟩) fun u s4 ⟨y, H4, I4, r2, eo, e4⟩ => ?_
  subst eo e4
  obtain ⟨t, rfl⟩ := r2
  have I5 : Inv X pins σ H4 { s4 with heap := s4.heap.push { cls := .type "slice", data := .fields #[.none, .none, .int (-1) t] } } := I4.kept (t' := s4.toks) fun b ob q => Heap.get?_push_of_some _ q
  obtain ⟨its, r, ht, hz⟩ := I5.tuple hx
  have hlen := r.length
  show wpAny (model X.prog X.w) X.A (subscriptTail e (.Slice none none (some (.UnaryOp .USub (.Constant (.int 1) k p1) p2)) p3) (.ref a) (.ref s4.heap.objs.size)) (EP X pins σ Q) X.xe { s4 with heap := s4.heap.push { cls := .type "slice", data := .fields #[.none, .none, .int (-1) t] } }
  refine tail_any (ops := [.ref a, .ref s4.heap.objs.size]) ht.typeIs PyProof.Rows.slot_tuple_getitem.lookup ?_ (by with_unfolding_all rfl)
  refine getItem_back ht (Heap.IsSliceOf.new ..) ?_ (by omega)
  refine ⟨.ref _, _, I5.laid (t' := s4.toks) (o := .tup xs.reverse) (fun b ob q => Heap.get?_push_of_some _ q) (Nat.le_refl _) ?_, rfl, q _ (I5.hok.fresh (Nat.le_refl _))⟩
  exact ⟨by rw [List.length_reverse]; exact hz, _, r.reverse, IsTup.new _ _⟩
end
end KX

set_option autoImplicit false
set_option maxRecDepth 100000
set_option maxHeartbeats 4000000
namespace KX
open PySem PySem.Spec PyProof.Rows L2
/-- C(..) where what __init__ raises is wished for at the caller's slots -/
def tMakeS (C : Addr) (sp : Sp) (E : L2.St → XK) (t : TA) : TE := fun σ H Q => t σ H fun vs H1 => ∀ x dx, H1 x = none → H1 dx = none → dx ≠ x →
  sp (.ref x :: vs) (upd (upd H1 dx (.own x)) x (.ins C dx [])) (fun v H2 => v = .non ∧ Q (.ref x) H2) (E σ)
section
variable {X : Cx} {CX : CXT} {k : Nat} {f C : Addr} {fd : FuncData} {ps : List Str} {sp : Sp} {E : L2.St → XK} {x : Str} {p pos : Pos} {e : Expr} {es : List Expr} {t : TA}
theorem pe_makeS (M : Mk X.K C f) (F : FnOk X.prog X.w X.K X.mg X.base CX k f fd ps sp) (hr : Room (k + 1) X.A) (hg : Gl X x) (hm : X.mg x = some (.ref C)) (hb : Binds X.K fd ps []) (hx : ∀ σ, PassesAt CX X σ (E σ)) (ha : PA X (e :: es) t)
    (hdb : (x == ("__debug__" : Str)) = false := by decide) (he : starEach (e :: es) X.env = (false, eval e X.env) :: starEach es X.env := by rfl) (hpl : (backTo pos (starEach es X.env)).any (·.1) = false := by rfl) :
    PE X (.Call (.Name x p) (e :: es) [] pos) (tMakeS C sp E t) := by
  refine ⟨fun pins s σ H Q I h => wpAny_Call_Name_kw (ld_glob I hg hm ?_ hdb)⟩
  refine PySem.W.callWith_K (h₀ := X.base) I.ok.mod.kin M.kp (thn (ha.run pos pins s σ H _ I h) fun us s1 ⟨vs, H1, I1, r, q⟩ => ⟨I1.kIn, ?_⟩) he hpl
  have n0 := I1.hok.fresh (Nat.le_refl s1.heap.objs.size)
  have n1 := I1.hok.fresh (Nat.le_succ s1.heap.objs.size)
  have asked := q (s1.heap.objs.size + 1) s1.heap.objs.size n1 n0 (Nat.ne_of_lt (Nat.lt_succ_self _))
  have I2 := Inv.made (C := C) I1
  have r2 : Vals (V.ref (s1.heap.objs.size + 1) :: vs) (Value.ref (s1.heap.objs.size + 1) :: us) := .cons rfl r
  have few : (Value.ref (s1.heap.objs.size + 1) :: us ++ []).length = ps.length := by
    rw [List.append_nil, ← r2.length]
    exact F.len _ _ _ _ asked
  have bound := hb _ (Value.ref (s1.heap.objs.size + 1) :: us) I2.kIn few
  rw [List.append_nil] at bound
  refine wpAny_call (make_map (f := f) I1.kIn M.makes M.init (beq_iff_eq.mp M.fn) (codeAny_mono (F.run _ X.stack _ _ ⟨Value.ref (s1.heap.objs.size + 1) :: us, []⟩ _ _ _ (E σ) (hr.make C us []) (I2.env0.make C us []) bound r2 asked) fun a s2 got => ?_))
  cases a with
  | error er => exact hx σ pins _ _ er s2 I2 got
  | ok fl =>
    cases fl with
    | ret u =>
      obtain ⟨v, H3, I3, rv, rfl, last⟩ := I2.after got
      exact ⟨rv, .ref (s1.heap.objs.size + 1), H3, I3, rfl, last⟩
    | next => exact False.elim got
    | brk => exact False.elim got
    | cont => exact False.elim got
end
end KX

set_option maxRecDepth 100000
set_option maxHeartbeats 4000000
namespace K03
open PySem PySem.Spec PyProof.Rows L2
def topS (i : Nat) : Stmt := PySem.Challenge.pw_lentcells_k03_claims_judged.main.body.getD i (.Pass ⟨0, 0, 0, 0⟩)
abbrev sIsName : Stmt := topS 16
abbrev sCreel : Stmt := topS 47
abbrev sFish : Stmt := topS 48
abbrev sOne : Stmt := topS 49
theorem scCreel : FnScope ["_law_script", "_law_at", "_law_cell", "_law_great", "_law_mixed"] ["_law_script", "_law_at"] (defScope sCreel) :=
  ⟨rfl, rfl, rfl, by decide +kernel, rfl, by decide +kernel, by decide +kernel⟩
theorem scFish : FnScope ["_law_creel_here", "_law_total", "_law_found", "_law_one", "_law_two"] ["_law_creel_here", "_law_total"] (defScope sFish) :=
  ⟨rfl, rfl, rfl, by decide +kernel, rfl, by decide +kernel, by decide +kernel⟩
theorem scOne : FnScope ["_law_creel_here", "_law_items"] ["_law_creel_here", "_law_items"] (defScope sOne) :=
  ⟨rfl, rfl, rfl, by decide +kernel, rfl, by decide +kernel, by decide +kernel⟩
/-- the modulus of a great cell -/
def big : Int := ((10 : Int) ^ (58 : Int).toNat) ^ (10 : Int).toNat
theorem big_pos : 0 < big := by unfold big; decide +kernel
theorem big_lt : big.natAbs < 2 ^ 2000 := by unfold big; decide +kernel
def CPowW (i j : Int) : Prop := 0 ≤ j ∧ (Builtin.Int.intBits i : Int) * j ≤ 2 ^ 27
theorem op_powW {X : Cx} : OpR X (binaryOp .Pow) (rI CPowW fun i j => .int (i ^ j.toNat)) := opI fun _ _ _ _ _ _ _ hc q => pow_int hc.1 hc.2 q
/-- a creel: three numbers -/
structure Cr (x y c : Int) : Prop where
  x0 : 0 ≤ x
  xb : x.natAbs < 2 ^ 2000
  y0 : 0 ≤ y
  yb : y < 2305843009213693951
  c0 : 0 ≤ c
  cb : c ≤ 1000000
theorem small_bits {i : Int} {n : Nat} (h0 : 0 ≤ i) (h : i < 2 ^ n) : i.natAbs < 2 ^ n := by
  have e : ((i.natAbs : Nat) : Int) < ((2 ^ n : Nat) : Int) := by
    rw [Int.natAbs_of_nonneg h0]
    have : ((2 ^ n : Nat) : Int) = (2 : Int) ^ n := by simp
    omega
  omega
def spCreel (K : PySem.W.Frag) : Sp := fun vs H Q _ => ∃ (a : Addr) (ns : List Int) (i : Int), vs = [.ref a, .int i] ∧ SqL K H a (ns.map V.int) ∧ ns.length ≤ 63 ∧ 0 ≤ i ∧ i ≤ 1000 ∧
  ∀ p x y, Cr x y 0 → H p = none → Q (.ref p) (upd H p (.lst [.int x, .int y, .int 0]))
def spFish : Sp := fun vs H Q _ => ∃ (a : Addr) (x y c t : Int), vs = [.ref a, .int t] ∧ H a = some (.lst [.int x, .int y, .int c]) ∧ Cr x y c ∧ c < 1000000 ∧ 0 < t ∧ t ≤ 1000 ∧
  ∀ r x' c', 0 ≤ r → r < t → Cr x' y c' → c' ≤ c + 1 → Q (.int r) (upd H a (.lst [.int x', .int y, .int c']))
section
variable {P : Program} {w : World} {K : PySem.W.Frag} {mg : Str → Option Value} {base : Heap}
theorem ok_creel {f : Addr} {fd : FuncData} (F : Fun K "_law_creel" "_law_creel" sCreel f fd) (ml : mg "len" = none) (mi : mg "int" = none) (ma : mg "abs" = none) (mm : mg "max" = none) :
    FnOk P w K mg base CX0 1 f fd ["_law_script", "_law_at"] (spCreel K) := by
  refine F.ok scCreel (fun vs H Q E h => ?_) (fun cdv A outer s H vs Q E hr h => ?_)
  · obtain ⟨a, ns, i, rfl, _⟩ := h
    rfl
  · obtain ⟨a, ns, i, rfl, hS, hlen, hi0, hi1, q⟩ := h
    refine ⟨_, C8.pss_cut (ps_set (i := 2) scCreel.nd rfl (.inl rfl) (pe_ifExp (pt_cmpR op_lt (pv 1) (pe_callB call_len_seq (by rfl) ml PySem.boot_len (pa_cons (pv 0) pa_nil)) (nomark _))
        (pe_ix ix_list (pv 0) (pv 1) (fun _ _ => rfl)) (pe_op op_add (pe_op op_mul pe_int (pv 1)) pe_int)))
      (pss_cons (ps_set (i := 3) scCreel.nd rfl (.inl rfl) (pe_op op_mod (pe_callTy call_int1 (by rfl) mi (by decide +kernel) (pa_cons (pe_callB call_abs (by rfl) ma (by decide +kernel) (pa_cons (pv 2) pa_nil)) pa_nil)) (pe_op op_powW (pe_op op_pow pe_int pe_int) pe_int)))
      (pss_cons (ps_set (i := 4) scCreel.nd rfl (.inl rfl) (pe_op op_mod (pe_callTy call_int1 (by rfl) mi (by decide +kernel) (pa_cons
          (pe_op op_add (pe_op op_add (pe_op op_add (pe_op op_mul (pv 3) pe_int) (pe_op op_mul pe_int (pv 1))) (pe_op op_mul pe_int (pe_callTy call_int1 (by rfl) mi (by decide +kernel) (pa_cons (pe_cmpR op_lt (pv 2) pe_int (nomark _)) pa_nil)))) pe_int) pa_nil)) pe_int))
      (pss_one (ps_ret (pe_lst (pa_cons (pe_callB (call_max2 rfl) (by rfl) mm (by decide +kernel) (pa_cons pe_int (pa_cons (pe_op op_sub (pv 3) (pe_op op_pow pe_int pe_int)) pa_nil))) (pa_cons (pv 4) (pa_cons pe_int pa_nil)))))))), ?_⟩
    refine ⟨fun σ' H' => H' = H ∧ ∃ z : Int, σ' = [some (.ref a), some (.int i), some (.int z), none, none], ?_, ?_⟩
    · refine ⟨_, rfl, .ref a, rfl, a, ns.map V.int, rfl, .inl hS, i, _, rfl, rfl, _, rfl, ite2 (fun e => ?_) (fun e => ?_)⟩
      · have hlt : i < ((ns.map V.int).length : Int) := of_decide_eq_true e
        rw [List.length_map] at hlt
        obtain ⟨n, rfl⟩ : ∃ n : Nat, i = (n : Int) := ⟨i.toNat, by omega⟩
        have hn : n < ns.length := by omega
        have g : (ns.map V.int)[n]? = some (.int ns[n]) := by
          rw [List.getElem?_map, List.getElem?_eq_getElem hn]
          rfl
        exact ⟨.ref a, rfl, _, rfl, a, _, _, _, rfl, rfl, hS, atI_nat g, rfl, _, rfl⟩
      · exact ⟨_, rfl, 113, i, rfl, rfl, .inl (by decide), _, _, rfl, rfl, rfl, _, rfl⟩
    · rintro σ' H' ⟨rfl, z, rfl⟩
      have hz0 : 0 ≤ (if z < 0 then -z else z) := by split <;> omega
      have hp : 0 < big := big_pos
      refine ⟨_, rfl, z, rfl, .inl ⟨_, rfl, 10, 58, rfl, rfl, ⟨by decide, by decide, by decide⟩, _, 10, rfl, rfl, ⟨by decide, by decide +kernel⟩, _, _, rfl, rfl, hp, ?_⟩⟩
      have hg0 : 0 ≤ (if z < 0 then -z else z) % big := Int.emod_nonneg _ (by omega)
      have hg1 : (if z < 0 then -z else z) % big < big := Int.emod_lt_of_pos _ hp
      show tSeq _ _ _ [some (.ref a), some (.int i), some (.int z), some (.int ((if z < 0 then -z else z) % big)), none] _
      generalize (if z < 0 then -z else z) % big = g at hg0 hg1
      have hgb : g.natAbs < 2 ^ 2000 := Nat.lt_of_le_of_lt (by omega) big_lt
      refine ⟨_, rfl, g, 5, rfl, rfl, .inr (by decide), _, rfl, 22801763, i, rfl, rfl, .inl (by decide), _, _, rfl, rfl, _, rfl, z, 0, rfl, rfl, .inr ⟨_, rfl, 86028121, _, rfl, rfl, .inl (by decide), _, _, rfl, rfl, _, 727, rfl, rfl, .inl ⟨_, rfl, _, 2305843009213693951, rfl, rfl, (by show (0 : Int) < 2305843009213693951; decide), ?_⟩⟩⟩
      refine ⟨_, rfl, 10, 17, rfl, rfl, ⟨by decide, by decide, by decide⟩, _, _, rfl, rfl, 0, _, rfl, _, rfl, (by show 3 ≤ sizeLine; decide), fun p hp => ?_⟩
      refine q p _ _ ⟨?_, ?_, Int.emod_nonneg _ (by decide), Int.emod_lt_of_pos _ (by decide), by decide, by decide⟩ hp
      · split <;> omega
      · refine Nat.lt_of_le_of_lt ?_ hgb
        have e17 : (0 : Int) < 10 ^ Int.toNat 17 := by decide
        split <;> omega
end
end K03

set_option maxRecDepth 100000
set_option maxHeartbeats 4000000
namespace K03
open PySem PySem.Spec PyProof.Rows L2
section
variable {P : Program} {w : World} {K : PySem.W.Frag} {mg : Str → Option Value} {base : Heap}
theorem ok_fish {f : Addr} {fd : FuncData} (F : Fun K "_law_fish" "_law_fish" sFish f fd) (mi : mg "int" = none) :
    FnOk P w K mg base CX0 1 f fd ["_law_creel_here", "_law_total"] spFish := by
  refine F.ok scFish (fun vs H Q E h => ?_) (fun cdv A outer s H vs Q E hr h => ?_)
  · obtain ⟨a, x, y, c, t, rfl, _⟩ := h
    rfl
  · obtain ⟨a, x, y, c, t, rfl, ha, C, hc, ht0, ht1, q⟩ := h
    refine ⟨_, pss_cons (ps_if (pt_cmpR op_gt (pe_ix ix_list (pv 0) pe_int (fun _ _ => rfl)) pe_int (nomark _))
        (pss_cons (ps_set (i := 2) scFish.nd rfl (.inl rfl) (pe_op op_mod (pe_callTy call_int1 (by rfl) mi (by decide +kernel) (pa_cons (pe_ix ix_list (pv 0) pe_int (fun _ _ => rfl)) pa_nil)) (pv 1)))
        (pss_cons (ps_asg (pe_op op_fdivW (pe_ix ix_list (pv 0) pe_int (fun _ _ => rfl)) (pv 1)) (pg_sub (pv 0) pe_int set_list))
        (pss_one (ps_ret (pv 2))))) pss_nil)
      (pss_cons (ps_asg (pe_op op_add (pe_ix ix_list (pv 0) pe_int (fun _ _ => rfl)) pe_int) (pg_sub (pv 0) pe_int set_list))
      (pss_cons (ps_set (i := 3) scFish.nd rfl (.inl rfl) (pe_op op_mod (pe_callTy call_int1 (by rfl) mi (by decide +kernel) (pa_cons (pe_op op_add (pe_op op_mul (pe_ix ix_list (pv 0) pe_int (fun _ _ => rfl)) pe_int) (pe_op op_mul (pe_ix ix_list (pv 0) pe_int (fun _ _ => rfl)) pe_int)) pa_nil)) pe_int))
      (pss_cons (ps_set (i := 4) scFish.nd rfl (.inl rfl) (pe_op op_mod (pe_callTy call_int1 (by rfl) mi (by decide +kernel) (pa_cons (pe_op op_add (pe_op op_mul (pv 3) (pv 3)) (pe_op op_mul pe_int (pe_ix ix_list (pv 0) pe_int (fun _ _ => rfl)))) pa_nil)) pe_int))
      (pss_one (ps_ret (pe_op op_mod (pe_callTy call_int1 (by rfl) mi (by decide +kernel) (pa_cons (pe_op op_fdiv (pe_op op_mod (pe_callTy call_int1 (by rfl) mi (by decide +kernel) (pa_cons (pe_op op_add (pe_op op_mul (pv 4) pe_int) (pv 3)) pa_nil)) pe_int) pe_int) pa_nil)) (pv 1))))))), ?_⟩
    have hS : SqL K H a [V.int x, V.int y, V.int c] := SqL.of ha
    refine ⟨.ref a, rfl, a, _, 0, .int x, rfl, rfl, hS, rfl, x, 0, rfl, rfl, _, rfl, ite2 (fun e => ?_) (fun e => ?_)⟩
    · have hx : 0 < x := of_decide_eq_true e
      refine ⟨.ref a, rfl, a, _, 0, .int x, rfl, rfl, hS, rfl, .inl ⟨x, rfl, .int t, rfl, x, t, rfl, rfl, ht0, ?_⟩⟩
      refine ⟨.ref a, rfl, a, _, 0, .int x, rfl, rfl, hS, rfl, .int t, rfl, x, t, rfl, rfl, wide_div (b := 64) ht0 (by omega) (by decide) (by decide), ?_⟩
      refine ⟨.ref a, rfl, a, _, 0, 0, rfl, rfl, ha, rfl, ?_⟩
      refine ⟨_, rfl, q _ _ _ (Int.emod_nonneg _ (by omega)) (Int.emod_lt_of_pos _ ht0) ⟨?_, ?_, C.y0, C.yb, C.c0, C.cb⟩ (by omega)⟩
      · exact Int.ediv_nonneg C.x0 (by omega)
      · have h1 : 0 ≤ x / t := Int.ediv_nonneg C.x0 (by omega)
        have h2 : x / t ≤ x := Int.ediv_le_self _ C.x0
        exact Nat.lt_of_le_of_lt (by omega) C.xb
    · have hx : x = 0 := by
        have := C.x0
        have h2 : ¬ 0 < x := fun z => e (decide_eq_true z)
        omega
      refine ⟨.ref a, rfl, a, _, 2, .int c, rfl, rfl, hS, rfl, c, 1, rfl, rfl, ?_⟩
      refine ⟨.ref a, rfl, a, _, 2, 2, rfl, rfl, ha, rfl, ?_⟩
      have hS2 : SqL K (upd H a (.lst [V.int x, V.int y, V.int (c + 1)])) a [V.int x, V.int y, V.int (c + 1)] := SqL.of upd_same
      have hy0 := C.y0
      have hyb := C.yb
      have hc0 := C.c0
      refine ⟨.ref a, rfl, a, _, 1, .int y, rfl, rfl, hS2, rfl, y, _, rfl, rfl, .inr (by decide), .ref a, rfl, a, _, 2, .int (c + 1), rfl, rfl, hS2, rfl, c + 1, _, rfl, rfl, .inr (by decide), _, _, rfl, rfl, .inl ⟨_, rfl, _, 2305843009213693951, rfl, rfl, (by show (0 : Int) < 2305843009213693951; decide), ?_⟩⟩
      have ho0 : ∀ z : Int, 0 ≤ z % 2305843009213693951 := fun z => Int.emod_nonneg _ (by decide)
      have ho1 : ∀ z : Int, z % 2305843009213693951 < 2305843009213693951 := fun z => Int.emod_lt_of_pos _ (by decide)
      show tSeq _ _ _ [some (.ref a), some (.int t), none, some (.int ((y * 3202034522624059733 + (c + 1) * 2654435761) % 2305843009213693951)), none] _
      have g0 := ho0 (y * 3202034522624059733 + (c + 1) * 2654435761)
      have g1 := ho1 (y * 3202034522624059733 + (c + 1) * 2654435761)
      generalize (y * 3202034522624059733 + (c + 1) * 2654435761) % 2305843009213693951 = u at g0 g1
      have t0 : ∀ z : Int, 0 ≤ z % 1152921504606846883 := fun z => Int.emod_nonneg _ (by decide)
      have t1 : ∀ z : Int, z % 1152921504606846883 < 1152921504606846883 := fun z => Int.emod_lt_of_pos _ (by decide)
      refine ⟨_, rfl, _, rfl, u, u, rfl, rfl, .inl ⟨by omega, by omega⟩, .ref a, rfl, a, _, 2, .int (c + 1), rfl, rfl, hS2, rfl, 81689, c + 1, rfl, rfl, .inl (by decide), _, _, rfl, rfl, .inl ⟨_, rfl, _, 1152921504606846883, rfl, rfl, (by show (0 : Int) < 1152921504606846883; decide), ?_⟩⟩
      refine ⟨_, rfl, _, 13, rfl, rfl, .inr (by decide), _, rfl, _, u, rfl, rfl, .inl ⟨_, rfl, _, 2305843009213693921, rfl, rfl, (by show (0 : Int) < 2305843009213693921; decide), _, 65536, rfl, rfl, ⟨by decide, by decide⟩, .inl ⟨_, rfl, _, rfl, _, t, rfl, rfl, ht0, ?_⟩⟩⟩
      have e : (upd (upd H a (.lst [V.int x, V.int y, V.int (c + 1)])) a (.lst [V.int x, V.int y, V.int (c + 1)])) = upd H a (.lst [V.int x, V.int y, V.int (c + 1)]) := upd_upd
      exact q _ _ _ (Int.emod_nonneg _ (by omega)) (Int.emod_lt_of_pos _ ht0) ⟨C.x0, C.xb, C.y0, C.yb, by omega, by omega⟩ (Int.le_refl _)
def spOne : Sp := fun vs H Q _ => ∃ (a : Addr) (it : V) (x y c : Int), vs = [.ref a, it] ∧ H a = some (.lst [.int x, .int y, .int c]) ∧ Cr x y c ∧ c < 1000000 ∧
  ((∃ (p : Addr) (xs : List V), it = .ref p ∧ H p = some (.lst xs) ∧ p ≠ a ∧ 0 < xs.length ∧ xs.length ≤ 1000 ∧ ∀ (r : Nat) v x' c', xs[r]? = some v → Cr x' y c' → c' ≤ c + 1 → Q v (upd H a (.lst [.int x', .int y, .int c']))) ∨
  (∃ z : Str, it = .str z ∧ 0 < z.length ∧ z.length ≤ 1000 ∧ ∀ (r ch : Nat) x' c', z.cps.toList[r]? = some ch → Cr x' y c' → c' ≤ c + 1 → Q (.str ⟨#[ch]⟩) (upd H a (.lst [.int x', .int y, .int c']))))
theorem ok_one {f fF : Addr} {fd fdF : FuncData} (F : Fun K "_law_one_of" "_law_one_of" sOne f fd) (FF : Fun K "_law_fish" "_law_fish" sFish fF fdF) (bF : Binds K fdF ["_law_creel_here", "_law_total"] []) (gF : mg "_law_fish" = some (.ref fF)) (mi : mg "int" = none) (ml : mg "len" = none) :
    FnOk P w K mg base CX0 2 f fd ["_law_creel_here", "_law_items"] spOne := by
  have GF : FnOk P w K mg base CX0 1 fF fdF ["_law_creel_here", "_law_total"] spFish := ok_fish FF mi
  refine F.ok scOne (fun vs H Q E h => ?_) (fun cdv A outer s H vs Q E hr h => ?_)
  · obtain ⟨a, it, x, y, c, rfl, _⟩ := h
    rfl
  · obtain ⟨a, it, x, y, c, rfl, ha, C, hc, hk⟩ := h
    refine ⟨_, pss_one (ps_ret (pe_ix (IxR.or ix_list ix_str) (pv 1) (pe_call GF hr (by rfl) gF FF.kp bF .nil pass0 (pa_cons (pv 0) (pa_cons (pe_callB (CallR.or call_len_seq call_len_str) (by rfl) ml PySem.boot_len (pa_cons (pv 1) pa_nil)) pa_nil))) (fun _ _ => rfl))), ?_⟩
    rcases hk with ⟨p, xs, rfl, hp, hpa, hl0, hl1, q⟩ | ⟨z, rfl, hl0, hl1, q⟩
    · refine ⟨.ref p, rfl, .ref a, rfl, .ref p, rfl, .inl ⟨p, xs, rfl, .inl (SqL.of hp), ?_⟩⟩
      refine ⟨a, x, y, c, xs.length, rfl, ha, C, hc, by omega, by omega, fun r x' c' hr0 hr1 C' hc' => .inl ?_⟩
      have hrl : r.toNat < xs.length := by omega
      have er : ((r.toNat : Nat) : Int) = r := Int.toNat_of_nonneg hr0
      have hp' : (upd H a (.lst [.int x', .int y, .int c'])) p = some (.lst xs) := by rw [upd_ne hpa]; exact hp
      refine ⟨p, xs, r, xs[r.toNat], rfl, rfl, SqL.of hp', ?_, q r.toNat _ x' c' (List.getElem?_eq_getElem hrl) C' hc'⟩
      have g := atI_nat (xs := xs) (List.getElem?_eq_getElem hrl)
      rw [er] at g
      exact g
    · have hzs : z.length ≤ sizeLine := Nat.le_trans hl1 (by decide)
      refine ⟨.str z, rfl, .ref a, rfl, .str z, rfl, .inr ⟨z, rfl, hzs, ?_⟩⟩
      refine ⟨a, x, y, c, z.length, rfl, ha, C, hc, by omega, by omega, fun r x' c' hr0 hr1 C' hc' => .inr ?_⟩
      have hrl : r.toNat < z.cps.toList.length := by
        have : z.length = z.cps.toList.length := by simp [Str.length]
        omega
      have er : ((r.toNat : Nat) : Int) = r := Int.toNat_of_nonneg hr0
      refine ⟨z, r, z.cps.toList[r.toNat], rfl, rfl, hzs, ?_, q r.toNat _ x' c' (List.getElem?_eq_getElem hrl) C' hc'⟩
      have g := atI_nat (xs := z.cps.toList) (List.getElem?_eq_getElem hrl)
      rw [er] at g
      exact g
end
end K03

set_option autoImplicit false
set_option maxRecDepth 100000
set_option maxHeartbeats 4000000
namespace KX
open PySem PySem.Spec PyProof.Rows L2
section
variable {prog : Program} {w : World} {A : Around} {E : Value → Shared → Prop} {s : Shared} {K : PySem.W.Frag} {x C f : Addr} {ox : Obj} {od : Option Obj}
/-- y in x, by the class's own __contains__ that answers a truth value -/
theorem contains_own {y : Value} {Q : Bool → Shared → Prop} (X : K.In s.heap) (I : PySem.W.InstAt s.heap x ox C od) (hs : PySem.W.findIn K (.ref C) "__contains__" = some (some (.ref f))) (hf : PySem.W.isFn K (.ref f) = true)
    (h : wpAny (model prog w) A (call (.ref f) [.ref x, y]) (fun r s' => ∃ b, r = .bool b ∧ Q b s') E s) : wpAny (model prog w) A (contains (.ref x) y) Q E s := by
  unfold contains
  refine wpAny_holding ?_
  rw [show stdlibNamesSay? (.ref x) y = none from rfl]
  refine wpAny_bind (wpAny_bind (I.type.here ((PySem.W.looks_findIn X hs).here ?_)))
  show wpAny _ A (if (some (Value.ref f) == some Value.none) = true then _ else _) Q E s
  rw [if_neg (by simp)]
  refine wpAny_bind (m := callSpecialUnlessNone? (.ref x) "__contains__" [y] _) ?_
  unfold callSpecialUnlessNone?
  refine wpAny_bind (wpAny_bind (I.type.here ((PySem.W.looks_findIn X hs).here ?_)))
  refine wpAny_holding (wpAny_bind ((PySem.W.bind_fn X _ (beq_iff_eq.mp hf)).here ?_))
  dsimp only
  rw [if_neg (by simp)]
  refine wpAny_bind (wpAny_mono h (fun r s' hr => ?_) fun _ _ e => e)
  obtain ⟨b, rfl, q⟩ := hr
  exact wpAny_pure (wpAny_truthy_bool q)
/-- len(x), by the class's own __len__ that answers an int -/
theorem len_own {Q : Value → Shared → Prop} (X : K.In s.heap) (I : PySem.W.InstAt s.heap x ox C od) (hs : PySem.W.findIn K (.ref C) "__len__" = some (some (.ref f))) (hf : PySem.W.isFn K (.ref f) = true)
    (h : wpAny (model prog w) A.in1 (call (.ref f) [.ref x]) (fun r s' => ∃ (n : Int) (u : Tok), r = .int n u ∧ 0 ≤ n ∧ n < 2 ^ 63 ∧ ∀ tk, Q (.int n tk) { s' with toks := s'.toks + 1 }) E s) : wpAny (model prog w) A (call (.builtin "len") [.ref x]) Q E s := by
  refine Calls.call_function_entry kind_len plain_len entry_len (args_len1 _) ?_
  unfold Builtin.«len»
  refine wpAny_bind (m := oneArg "len" _) (wpAny_pure ?_)
  refine wpAny_bind (m := callSpecial? (.ref x) (Str.ofString "__len__")) (PySem.W.special_fn X I hs (beq_iff_eq.mp hf) (wpAny_mono h (fun r s' hr => ?_) fun _ _ y => y))
  obtain ⟨n, u, rfl, h0, h1, q⟩ := hr
  refine wpAny_bind (wpAny_holding (wpAny_pure ?_))
  refine wpAny_bind (wpAny_letGo ?_)
  show wpAny _ _ (if n < 0 then _ else _) _ _ _
  rw [if_neg (by omega)]
  show wpAny _ _ (if n ≥ 2 ^ 63 then _ else _) _ _ _
  rw [if_neg (by omega)]
  exact wpAny_bind (wpAny_mkInt (wpAny_pure ⟨_, rfl, q _⟩))
end
end KX

set_option autoImplicit false
set_option maxRecDepth 100000
set_option maxHeartbeats 4000000
namespace KX
open PySem PySem.Spec PyProof.Rows L2
section
variable {prog : Program} {w : World} {A : Around} {E : Value → Shared → Prop} {s : Shared} {K : PySem.W.Frag} {x C f L : Addr} {ox : Obj} {od : Option Obj} {y tb : Value} {h₀ : Heap} {m : Str → Option Value}
theorem objNe_entry (X : K.In s.heap) (I : PySem.W.InstAt s.heap x ox C od) (hs : PySem.W.findIn K (.ref C) "__eq__" = some (some (.ref f))) (hf : PySem.W.isFn K (.ref f) = true) (hu : A.units < cLine) {Q : Fin → Shared → Prop}
    (h : wpAny (model prog w) A (call (.ref f) [.ref x, y]) (fun v s' => ∃ b, v = .bool b ∧ Q (.done (.ret (.bool (!b)))) s') E s) : wpAny (model prog w) A (Builtin.«object.__ne__» ⟨[.ref x, y], []⟩) Q E s := by
  unfold Builtin.«object.__ne__»
  repeat (first
    | with_reducible refine wpAny_cRoomFor hu ?_
    | (refine wpAny_bind (m := callSpecialIfBound? (.ref x) (Str.ofString "__eq__") [y])
        (PySem.W.ifBound_K X I hs hf (wpAny_mono h (fun r s' hr => by
          obtain ⟨b, rfl, hq⟩ := hr
          repeat (first | exact hq | exact wpAny_pure hq | exact wpAny_truthy_bool hq | (refine wpAny_bind (m := truthy (.bool _)) (wpAny_truthy_bool ?_)) | wp_step)) fun _ _ e => e)))
    | wp_step)
theorem ifBound_objNe {args : List Value} {Q : Option Value → Shared → Prop} (X : K.In s.heap) (I : PySem.W.InstAt s.heap x ox C od) (hs : PySem.W.findIn K (.ref C) "__ne__" = some (some (.builtin "object.__ne__")))
    (h : wpAny (model prog w) A (call (.builtin "object.__ne__") (.ref x :: args)) (fun v => Q (some v)) E s) : wpAny (model prog w) A (callSpecialIfBound? (.ref x) "__ne__" args) Q E s := by
  simp only [callSpecialIfBound?, bindSpecialIfBound?]
  refine wpAny_holding (wpAny_bind (wpAny_bind (wpAny_bind (I.type.here ((PySem.W.looks_findIn X hs).here ?_)))))
  refine wpAny_bind (wpAny_askSetting (wpAny_ite ?_))
  have fin : wpAny (model prog w) A (call (.builtin "object.__ne__") ([.ref x] ++ args) >>= fun v => pure (some v)) Q E s := wpAny_bind (wpAny_mono h (fun v s' h' => wpAny_pure h') fun _ _ h' => h')
  split
  · exact wpAny_bind (wpAny_of_eq (F.cmp_object.ne.bind _) (wpAny_pure (by exact fin)))
  · exact wpAny_tryCatch (wpAny_bind (wpAny_of_eq (F.cmp_object.ne.bind _) (wpAny_pure (by exact fin))))
/-- x != y, by the class's own __eq__ and object's __ne__ -/
theorem ne_own {Q : Value → Shared → Prop} (hu : A.units + 1 < cLine) (X : K.In s.heap) (I : PySem.W.InstAt s.heap x ox C od) (hb : PySem.W.Looks (model prog w) s.heap (typeOf y) tb) (hn : PySem.W.notFirst K C tb = true)
    (hm : PySem.W.mroIn K C (.type "object") = some true) (hs : PySem.W.findIn K (.ref C) "__eq__" = some (some (.ref f))) (hne : PySem.W.findIn K (.ref C) "__ne__" = some (some (.builtin "object.__ne__"))) (hf : PySem.W.isFn K (.ref f) = true)
    (h : wpAny (model prog w) A.in1 (call (.ref f) [.ref x, y]) (fun v s' => ∃ b, v = .bool b ∧ Q (.bool (!b)) s') E s) : wpAny (model prog w) A (richCompare .NotEq (.ref x) y) Q E s := by
  have one : wpAny (model prog w) A (tryCompare (.ref x) "__ne__" y) (fun r s' => ∃ v, r = some v ∧ Q v s') E s := by
    unfold tryCompare
    refine wpAny_bind (ifBound_objNe X I hne (wpAny_call (codeAny_call_builtin F.cmp_object.ne.plain F.cmpEntry_ne (PySem.W.check_slot F.cmpKind_ne F.cmpSplit_ne (I.type.andThen (PySem.W.looks_mroIn X hm)) (F.cmpArgs_ne _ _)
      (objNe_entry (A := A.in1) X I hs hf hu (wpAny_mono h (fun v s' hv => ?_) fun _ _ e => e))))))
    obtain ⟨b, rfl, hq⟩ := hv
    first | exact ⟨b, rfl, wpAny_pure ⟨_, rfl, hq⟩⟩ | exact ⟨b, rfl, wpAny_pure (wpAny_pure ⟨_, rfl, hq⟩)⟩ | exact ⟨b, rfl, ⟨_, rfl, hq⟩⟩
  unfold richCompare
  simp only [oneThing_ref]
  refine wpAny_holding (wpAny_bind (wpAny_cRoomFor (Nat.lt_of_succ_lt hu) ?_))
  rw [cmpInfo_NotEq]
  dsimp only
  refine wpAny_bind (I.type.here (wpAny_bind (hb.here ?_)))
  split
  · rename_i q
    have e : PySem.W.subIn K tb (.ref C) = some false := by
      rcases Bool.or_eq_true_iff.mp hn with e | e
      · rw [beq_iff_eq.mp e] at q; simp at q
      · exact beq_iff_eq.mp e
    refine wpAny_bind ((PySem.W.looks_subIn X e).here ?_)
    simp only [Bool.false_eq_true, if_false]
    refine wpAny_bind (wpAny_mono one (fun r s' z => ?_) fun _ _ e => e)
    obtain ⟨v, rfl, hq⟩ := z
    exact wpAny_pure hq
  · refine wpAny_bind (wpAny_pure ?_)
    simp only [Bool.false_eq_true, if_false]
    refine wpAny_bind (wpAny_mono one (fun r s' z => ?_) fun _ _ e => e)
    obtain ⟨v, rfl, hq⟩ := z
    exact wpAny_pure hq
end
end KX

set_option autoImplicit false
set_option maxRecDepth 100000
set_option maxHeartbeats 4000000
namespace KX
open PySem PySem.Spec PyProof.Rows L2
/-- what stands right of == and != -/
inductive OfTy (H : Hp) : V → Value → Prop
  | ins {b C dy : Addr} {gs : List (Str × V)} (e : H b = some (.ins C dy gs)) : OfTy H (.ref b) (.ref C)
  | lst {b : Addr} {xs : List V} (e : H b = some (.lst xs)) : OfTy H (.ref b) (.type "list")
/-- the class at C has its own def of this name at g -/
structure OwnDef (K : PySem.W.Frag) (C : Addr) (name : Str) (g : Addr) : Prop where
  at_ : PySem.W.findIn K (.ref C) name = some (some (.ref g))
  fn : PySem.W.isFn K (.ref g) = true
/-- the own def answers; what it answers is a truth value -/
def spB (sp : Sp) (E : XK) (neg : Bool) : List V → Hp → VK → Prop := fun vs H Q => sp vs H (fun z H' => ∃ b, z = .bl b ∧ Q (.bl (neg ^^ b)) H') E
def rInOwn (C : Addr) (sp : Sp) (E : XK) (neg : Bool) : R2 := fun x y H Q => ∃ a dx fs, y = .ref a ∧ H a = some (.ins C dx fs) ∧ spB sp E neg [y, x] H Q
def rEqOwn (K : PySem.W.Frag) (C : Addr) (sp : Sp) (E : XK) (neg : Bool) : R2 := fun x y H Q => ∃ a dx fs tb, x = .ref a ∧ H a = some (.ins C dx fs) ∧ OfTy H y tb ∧ PySem.W.notFirst K C tb = true ∧ spB sp E neg [x, y] H Q
def rLenOwn (C : Addr) (sp : Sp) (E : XK) : List V → Hp → VK → Prop := fun xs H Q => ∃ a dx fs, xs = [V.ref a] ∧ H a = some (.ins C dx fs) ∧ sp [.ref a] H (fun z H' => ∃ n : Nat, z = .int n ∧ n < 2 ^ 62 ∧ Q z H') E
section
variable {X : Cx} {CX : CXT} {C g : Addr} {n : Nat} {sp : Sp} {E : XK}
theorem OfTy.looks {pins : List (Addr × Obj)} {σ : L2.St} {H : Hp} {s : Shared} {y : V} {u tb : Value} (t : OfTy H y tb) (I : Inv X pins σ H s) (r : RelV y u) : PySem.W.Looks (model X.prog X.w) s.heap (typeOf u) tb := by
  cases t with
  | @ins b C dy gs e =>
    cases (show u = Value.ref b from r)
    obtain ⟨mA, J, _⟩ := ins_get I.hok e
    obtain ⟨od, J, _⟩ := J.look
    exact J.type
  | @lst b xs e =>
    cases (show u = Value.ref b from r)
    obtain ⟨_, _, n, _, h1⟩ := (show ObjOk X.prog X.w H s.heap b (.lst xs) from I.hok b _ e)
    exact (PySem.W.Looks.ld h1).andThen .now
theorem in_run {neg : Bool} (D : OwnDef X.K C "__contains__" g) (F : FnR X.prog X.w X.K X.mg X.base CX n g sp) (hr : Room n X.A) (hx : Passes CX X E) {pins : List (Addr × Obj)} {σ : L2.St} {H : Hp} {s : Shared} {x y : V} {v u : Value} {Q : VK}
    (I : Inv X pins σ H s) (rx : RelV x v) (ry : RelV y u) (h : rInOwn C sp E neg x y H Q) : wpAny (model X.prog X.w) X.A (contains u v) (fun b s' => EP X pins σ Q (.bool (neg ^^ b)) s') X.xe s := by
  obtain ⟨a, dx, fs, rfl, ha, q⟩ := h
  cases (show u = Value.ref a from ry)
  obtain ⟨mA, J, _⟩ := ins_get I.hok ha
  obtain ⟨od, J, _⟩ := J.look
  refine contains_own I.kIn J D.at_ D.fn (wpAny_call ?_)
  refine codeAny_mono (run_fnR (us := [.ref a, v]) (vs := [.ref a, x]) F hr hx I (.cons rfl (.cons rx .nil)) q) fun r s' z => ?_
  cases r with
  | error e => exact z
  | ok fl =>
    cases fl with
    | ret w =>
      obtain ⟨z', H', I', rz, b, ez, qz⟩ := z
      subst ez
      cases (show w = Value.bool b from rz)
      exact ⟨b, rfl, .bl (neg ^^ b), H', I', rfl, qz⟩
    | next => exact z
    | brk => exact z
    | cont => exact z
theorem op_inOwn (D : OwnDef X.K C "__contains__" g) (F : FnR X.prog X.w X.K X.mg X.base CX n g sp) (hr : Room n X.A) (hx : Passes CX X E) : OpR X (compareOp .In) (rInOwn C sp E false) := by
  intro pins s σ H x y v u Q I rx ry h
  show wpAny _ _ (do return Value.bool (← contains u v)) _ _ s
  exact wpAny_bind (wpAny_mono (in_run D F hr hx I rx ry h) (fun b s' z => wpAny_pure (by rw [Bool.false_xor] at z; exact z)) fun _ _ e => e)
theorem op_niOwn (D : OwnDef X.K C "__contains__" g) (F : FnR X.prog X.w X.K X.mg X.base CX n g sp) (hr : Room n X.A) (hx : Passes CX X E) : OpR X (compareOp .NotIn) (rInOwn C sp E true) := by
  intro pins s σ H x y v u Q I rx ry h
  show wpAny _ _ (do return Value.bool (!(← contains u v))) _ _ s
  exact wpAny_bind (wpAny_mono (in_run D F hr hx I rx ry h) (fun b s' z => wpAny_pure (by rw [Bool.true_xor] at z; exact z)) fun _ _ e => e)
theorem op_eqOwn (D : OwnDef X.K C "__eq__" g) (F : FnR X.prog X.w X.K X.mg X.base CX n g sp) (hr : Room n X.A) (hx : Passes CX X E) : OpR X (compareOp .Eq) (rEqOwn X.K C sp E false) := by
  intro pins s σ H x y v u Q I rx ry h
  obtain ⟨a, dx, fs, tb, rfl, ha, ty, hn, q⟩ := h
  cases (show v = Value.ref a from rx)
  obtain ⟨mA, J, _⟩ := ins_get I.hok ha
  obtain ⟨od, J, _⟩ := J.look
  obtain ⟨m, hF⟩ := I.fr
  show wpAny _ _ (richCompare .Eq (.ref a) u) _ _ s
  refine PySem.W.cmp_K (op := .Eq) (tb := tb) hr.units0 hF I.ok.mod.kin J (ty.looks I ry) hn D.at_ D.fn ?_
  refine wpAny_mono (wpAny_call (run_fnR (us := [.ref a, u]) (vs := [.ref a, y]) F hr hx I (.cons rfl (.cons ry .nil)) q)) (fun w s' z => ?_) fun _ _ x => x
  obtain ⟨z', H', I', rz, b, ez, qz⟩ := z
  subst ez
  cases (show w = Value.bool b from rz)
  exact ⟨.bl b, H', I', rfl, by rw [Bool.false_xor] at qz; exact qz⟩
theorem op_neOwn (D : OwnDef X.K C "__eq__" g) (hm : PySem.W.mroIn X.K C (.type "object") = some true) (hne : PySem.W.findIn X.K (.ref C) "__ne__" = some (some (.builtin "object.__ne__"))) (F : FnR X.prog X.w X.K X.mg X.base CX n g sp) (hr : Room (n + 1) X.A) (hx : Passes CX X E) :
    OpR X (compareOp .NotEq) (rEqOwn X.K C sp E true) := by
  intro pins s σ H x y v u Q I rx ry h
  obtain ⟨a, dx, fs, tb, rfl, ha, ty, hn, q⟩ := h
  cases (show v = Value.ref a from rx)
  obtain ⟨mA, J, _⟩ := ins_get I.hok ha
  obtain ⟨od, J, _⟩ := J.look
  show wpAny _ _ (richCompare .NotEq (.ref a) u) _ _ s
  refine ne_own (by have := hr.un; omega) I.kIn J (ty.looks I ry) hn hm D.at_ hne D.fn ?_
  refine wpAny_mono (wpAny_call (SlX.run_at (us := [.ref a, u]) (ws := [.ref a, y]) F hr.in1 I.env0.in1 hx I (.cons rfl (.cons ry .nil)) q)) (fun w s' z => ?_) fun _ _ x => x
  obtain ⟨z', H', I', rz, b, ez, qz⟩ := z
  subst ez
  cases (show w = Value.bool b from rz)
  exact ⟨b, rfl, .bl (!b), H', I', rfl, by rw [Bool.true_xor] at qz; exact qz⟩
theorem call_lenOwn (D : OwnDef X.K C "__len__" g) (F : FnR X.prog X.w X.K X.mg X.base CX n g sp) (hr : Room (n + 1) X.A) (hx : Passes CX X E) : CallR X (.builtin "len") (rLenOwn C sp E) := by
  intro pins s σ H xs us Q I r h
  obtain ⟨a, dx, fs, rfl, ha, q⟩ := h
  obtain ⟨u, rfl, ru⟩ := r.one
  cases (show u = Value.ref a from ru)
  obtain ⟨mA, J, _⟩ := ins_get I.hok ha
  obtain ⟨od, J, _⟩ := J.look
  refine len_own I.kIn J D.at_ D.fn (wpAny_mono (wpAny_call (SlX.run_at (us := [.ref a]) (ws := [.ref a]) F hr.in1 I.env0.in1 hx I (.cons rfl .nil) q)) (fun w s' z => ?_) fun _ _ x => x)
  obtain ⟨z', H', I', rz, k, ez, hk, qz⟩ := z
  subst ez
  obtain ⟨t, e⟩ := (show ∃ t, w = Value.int k t from rz)
  cases e
  exact ⟨k, t, rfl, by omega, by omega, fun tk => ⟨.int k, H', I'.tok _, ⟨tk, rfl⟩, qz⟩⟩
end
end KX

set_option autoImplicit false
set_option maxRecDepth 100000
set_option maxHeartbeats 4000000
namespace KX
open PySem PySem.Spec PyProof.Rows L2
section
variable {prog : Program} {w : World} {A : Around} {E : Value → Shared → Prop} {s : Shared} {K : PySem.W.Frag} {x C f : Addr} {ox : Obj} {od : Option Obj}
/-- str(x), by the class's own __str__ that answers a text -/
theorem str_own {Q : Value → Shared → Prop} (hu : A.units + 2 < cLine) (X : K.In s.heap) (I : PySem.W.InstAt s.heap x ox C od) (hs : PySem.W.findIn K (.ref C) "__str__" = some (some (.ref f))) (hf : PySem.W.isFn K (.ref f) = true)
    (h : wpAny (model prog w) A.in1.in1 (call (.ref f) [.ref x]) (fun r s₁ => ∃ z u, r = Value.str z u ∧ Q r s₁) E s) : wpAny (model prog w) A (call (.type "str") [.ref x]) Q E s := by
  refine callType_codes (T := "str") (Bi := Builtin.«object.__init__») (Q₁ := fun r s₁ => ∃ z u, r = Value.str z u ∧ Q r s₁) PySem.F.called_str (PySem.F.typeCall_str_1 _) PySem.F.entry_object_init ?_ ?_
  · refine codeAny_of_tree ?_
    show wpAny _ A.in1.in1 (do checkBuiltinCall "str.__new__" ⟨[.type "str", .ref x], []⟩; again (.builtin "str.__new__" ⟨[.type "str", .ref x], []⟩)) _ _ s
    refine wpAny_bind (wpAny_of_eq (PySem.F.newCall_str_1 _) (wpAny_pure ⟨plainId_quiet (by decide +kernel) _, codeAny_builtin PySem.F.entry_str_new ?_⟩))
    rw [Around.under_plainId (by decide +kernel) _, str_new_tree]
    refine wpAny_bind (wpAny_pure ?_)
    refine wpAny_bind (wpAny_of_eq isSubtype_str_str ?_)
    refine wpAny_bind ?_
    unfold Builtin.Str.strOf
    rw [show Builtin.Str.isExactStr (.ref x) = false from rfl]
    simp only [Bool.false_eq_true, if_false, pure_bind]
    refine wpAny_bind (wpAny_cRoomFor hu ?_)
    refine wpAny_bind (m := callSpecial? (.ref x) (Str.ofString "__str__")) (PySem.W.special_fn X I hs (beq_iff_eq.mp hf) (wpAny_mono h (fun r s' hr => ?_) fun _ _ y => y))
    obtain ⟨z, u, rfl, q⟩ := hr
    first | exact wpAny_pure (wpAny_pure ⟨z, u, rfl, q⟩) | exact wpAny_pure (wpAny_pure ⟨_, rfl, z, u, rfl, q⟩)
  · rintro obj s₁ ⟨n, u, rfl, hq⟩
    exact ⟨typeIs_str _ _ _, PySem.F.args_object_init_2 _ _, object_init_meets PySem.F.called_str.init.lookup PySem.F.called_str.made (by decide) prog w A.in1 _ s₁ ⟨typeIs_str _ _ _, rfl, hq⟩⟩
end
def rStrOwn (C : Addr) (sp : Sp) (E : XK) : List V → Hp → VK → Prop := fun xs H Q => ∃ a dx fs, xs = [V.ref a] ∧ H a = some (.ins C dx fs) ∧ sp [.ref a] H (fun z H' => ∃ t : Str, z = .str t ∧ Q z H') E
section
variable {X : Cx} {CX : CXT} {C g : Addr} {n : Nat} {sp : Sp} {E : XK}
theorem call_strOwn (D : OwnDef X.K C "__str__" g) (F : FnR X.prog X.w X.K X.mg X.base CX n g sp) (hr : Room (n + 2) X.A) (hx : Passes CX X E) : CallR X (.type "str") (rStrOwn C sp E) := by
  intro pins s σ H xs us Q I r h
  obtain ⟨a, dx, fs, rfl, ha, q⟩ := h
  obtain ⟨u, rfl, ru⟩ := r.one
  cases (show u = Value.ref a from ru)
  obtain ⟨mA, J, _⟩ := ins_get I.hok ha
  obtain ⟨od, J, _⟩ := J.look
  have hr2 : Room n X.A.in1.in1 := (show Room (n + 1) X.A.in1 from Room.in1 hr).in1
  refine str_own (by have := hr.un; omega) I.kIn J D.at_ D.fn (wpAny_mono (wpAny_call (SlX.run_at (us := [.ref a]) (ws := [.ref a]) F hr2 I.env0.in1.in1 hx I (.cons rfl .nil) q)) (fun w s' z => ?_) fun _ _ x => x)
  obtain ⟨z', H', I', rz, t, ez, qz⟩ := z
  subst ez
  obtain ⟨tk, e⟩ := (show ∃ tk, w = Value.str t tk from rz)
  cases e
  exact ⟨t, tk, rfl, .str t, H', I', ⟨tk, rfl⟩, qz⟩
end
end KX

set_option autoImplicit false
set_option maxRecDepth 100000
set_option maxHeartbeats 4000000
/-! defs that raise where nothing is handled: their exceptions have no context -/
namespace KX
open PySem PySem.Spec PyProof.Rows L2
theorem passLN {X : Cx} : Passes (L2N.CX X.prog X.w) X E0 := fun _ _ _ _ _ _ _ h => by
  obtain ⟨_, _, _, _, _, _, _, _, _, _, _, _, z⟩ := h
  exact z.elim
section
variable {P : Program} {w : World} {K : PySem.W.Frag} {mg : Str → Option Value} {base : Heap}
theorem okN {x qual : Str} {st : Stmt} {f : Addr} {fd : FuncData} {N ps : List Str} {k : Nat} {sp : Sp} (F : Fun K x qual st f fd) (S : FnScope N ps (defScope st)) (len : ∀ vs H Q E, sp vs H Q E → vs.length = ps.length)
    (hbody : ∀ (cdv : Value) (A : Around) (outer : List Env) (s : Shared) (H : Hp) (vs : List V) (Q : VK) (E : XK), Room k (A.deeper (envOfC qual (defScope st) s.heap.objs.size f cdv)) → sp vs H Q E →
      ∃ t, PSs (cxOf (L2N.CX P w) P w K mg base N qual (defScope st) f cdv A outer s H E) (defBody st) t ∧ t { nx := fun _ H' => Q .non H', rt := Q } (L2.start N vs) H) : FnOk P w K mg base (L2N.CX P w) (k + 1) f fd ps sp := by
  obtain ⟨oc, od, kV, doc, pm, an, cdv, ct, osl, rfl, lk, hcd⟩ := F.ex
  exact fn_of lk hcd S len fun A outer s H vs Q E hr hsp => hbody cdv A outer s H vs Q E hr hsp
end
end KX

set_option autoImplicit false
set_option maxRecDepth 100000
set_option maxHeartbeats 4000000
/-! {**a, **b, ..}: dicts put one behind the other into a new one -/
namespace KX
open PySem PySem.Spec PyProof.Rows L2
section
variable {prog : Program} {w : World} {κ : Type} [DecidableEq κ] {knd : KeyKind prog w κ} {A : Around} {E : Value → Shared → Prop} {s : Shared}
theorem put_pairs {d : Addr} {kvs : List (κ × Value)} {k : κ} {key v : Value} {Q : Unit → Shared → Prop} (hk : knd.is k key = true) (m : s.heap.DictOf knd d kvs)
    (few : kvs.length ≤ sizeLine) (q : ∀ h', h'.DictOf knd d (stored kvs k v) → Heap.SameBut d s.heap h' → Q () { s with heap := h' }) :
    wpAny (model prog w) A (dictPut d (knd.hash k) key v) Q E s := by
  obtain ⟨o, es, ep, ho, ex, dt, ks, ps, nd⟩ := m
  have z : es.size ≤ sizeLine := by
    have := ps.length
    rw [Array.length_toList] at this
    omega
  have same : (es.findIdx? fun e => knd.is k e.key) = kvs.findIdx? fun y => decide (y.1 = k) := by
    obtain ⟨l⟩ := es
    rw [← ps.findIdx k]
    simp
  unfold dictPut
  refine wpAny_bind (wpAny_dictFind_of hk ho dt ks ?_)
  cases e : es.findIdx? fun e => knd.is k e.key with
  | some i =>
    have there := any_of_findIdx_some (same ▸ e)
    refine wpAny_updateDict ho dt (q _ ⟨_, _, ep, Heap.get?_update_self _ ho (Obj.isFreed_of_dict (Obj.data_mapDict dt _)), ex.mapDict _, Obj.data_mapDict dt _, ks.modify _ _, ?_, ?_⟩ (Heap.SameBut.update ..))
    · unfold stored
      rw [if_pos there]
      have y := ps.modify nd (i := i) (k := k) (by rw [← e]; obtain ⟨l⟩ := es; simp) v
      obtain ⟨l⟩ := es
      simpa using y
    · unfold stored
      rw [if_pos there, keys_map_store]
      exact nd
  | none =>
    have new := not_mem_of_findIdx_none (same ▸ e)
    have absent : ¬ (kvs.any fun y => decide (y.1 = k)) = true := fun y => by
      obtain ⟨p, hp, e2⟩ := List.any_eq_true.mp y
      exact new (List.mem_map.mpr ⟨p, hp, of_decide_eq_true e2⟩)
    refine wpAny_updateDictKeys (hz := z) ho dt (q _ ⟨_, _, ep + 1, Heap.get?_update_self _ ho (Obj.isFreed_of_dict (Obj.data_mapDictKeys dt _)), ex.mapDictKeys _, Obj.data_mapDictKeys dt _, ks.push hk _, ?_, ?_⟩ (Heap.SameBut.update ..))
    · unfold stored
      rw [if_neg absent]
      have y := ps.append hk (knd.hash k) v
      obtain ⟨l⟩ := es
      simpa using y
    · unfold stored
      rw [if_neg absent, List.map_append, List.nodup_append]
      refine ⟨nd, by simp, fun x hx y hy => ?_⟩
      rw [List.map_cons, List.map_nil, List.mem_singleton] at hy
      rw [hy]
      intro e2
      rw [e2] at hx
      exact new hx
theorem merge_pairs {d a : Addr} {kvs more : List (κ × Value)} {Q : Unit → Shared → Prop} (ne : d ≠ a) (sy : (a == sysModules) = false) (md : s.heap.DictOf knd d kvs) (ma : s.heap.DictOf knd a more)
    (few : kvs.length + more.length ≤ sizeLine) (q : ∀ h', h'.DictOf knd d (merged kvs more) → h'.DictOf knd a more → Heap.SameBut d s.heap h' → Q () { s with heap := h' }) :
    wpAny (model prog w) A (mergeMapping d (.ref a) false) Q E s := by
  obtain ⟨o1, es1, ep1, ho1, ex1, dt1, ks1, ps1, nd1⟩ := id md
  obtain ⟨o2, es2, ep2, ho2, ex2, dt2, ks2, ps2, nd2⟩ := id ma
  have len : more.length = es2.size := by
    have := ps2.length
    rw [Array.length_toList] at this
    exact this.symm
  unfold mergeMapping
  refine wpAny_bind (wpAny_isInstance ma.typeIs isSubtype_dict_dict ?_)
  dsimp only
  rw [if_pos rfl]
  refine wpAny_bind (wpAny_specialOf ma.typeIs F.slot_dict_iter.lookup (wpAny_bind (wpAny_pure ?_)))
  rw [beq_self_eq_true]
  dsimp only
  rw [if_neg (by rw [sy]; exact Bool.false_ne_true)]
  refine wpAny_bind (wpAny_dictEntries ho1 dt1 ?_)
  have quiet : ∀ e ∈ es2.toList, ∀ b, e.key ≠ .ref b := fun e he b z => by
    obtain ⟨y, hy, _⟩ := ks2 e (Array.mem_toList_iff.mp he)
    have := knd.byValue y _ hy
    rw [z] at this
    cases this
  split
  case' isTrue =>
    refine wpAny_bind (wpAny_dictEntries ho2 dt2 (wpAny_bind ?_))
    refine wpAny_of_eq (a := PUnit.unit) (by
      rw [← Array.forIn_toList]
      refine forIn_yield_id _ fun e he u => ?_
      have := quiet e he
      split
      · rename_i b z
        exact absurd z (this b)
      · rfl) ?_
  all_goals
    refine wpAny_bind (wpAny_dictEntries ho2 dt2 (wpAny_bind (wpAny_dictEpoch ho2 dt2 (wpAny_bind ?_))))
    refine wpAny_forIn_list _ (fun rest _ s' => ∃ (h' : Heap) (i : Nat), s' = { s with heap := h' } ∧ rest = (List.range es2.size).drop i ∧ i ≤ es2.size ∧ h'.DictOf knd d (merged kvs (more.take i)) ∧ h'.get? a = some o2 ∧ Heap.SameBut d s.heap h')
      _ ?_ ?_ _ _ ⟨s.heap, 0, rfl, by simp, Nat.zero_le _, by simpa [merged] using md, ho2, Heap.SameBut.refl _ _⟩
    · rintro x rest u s' ⟨h', i, rfl, hr, hi, m1, g1, b1⟩
      have lt : i < es2.size := by
        rcases Nat.lt_or_ge i es2.size with y | y
        · exact y
        · rw [List.drop_eq_nil_of_le (by rw [List.length_range]; exact y)] at hr
          cases hr
      rw [List.drop_eq_getElem_cons (by rw [List.length_range]; exact lt), List.getElem_range] at hr
      obtain ⟨rfl, rfl⟩ := List.cons.inj hr
      refine wpAny_bind (wpAny_dictEntries g1 dt2 ?_)
      rw [Array.getElem?_eq_getElem lt]
      dsimp only
      have lm : x < more.length := by rw [len]; exact lt
      obtain ⟨hkey, hval⟩ := ps2.get? (e := es2[x]) (by simp [lt]) (List.getElem?_eq_getElem lm)
      obtain ⟨k', hk', hh⟩ := ks2 es2[x] (Array.getElem_mem lt)
      have same := knd.inj _ _ _ hk' hkey
      rw [if_neg Bool.false_ne_true, hh, hval, same]
      have z : (merged kvs (more.take x)).length ≤ sizeLine := by
        have y := merged_length_le kvs (more.take x)
        rw [List.length_take] at y
        omega
      refine wpAny_bind (wpAny_holding (put_pairs hkey m1 z fun h2 m2 b2 => ?_))
      have g2 : h2.get? a = some o2 := (b2.2 a ne.symm).trans g1
      refine wpAny_bind (wpAny_dictEpoch g2 dt2 ?_)
      rw [if_neg (by simp)]
      exact wpAny_pure ⟨h2, x + 1, rfl, rfl, lt, by rw [merged_take_succ kvs more x _ (List.getElem?_eq_getElem lm)]; exact m2, g2, b1.trans b2⟩
    · rintro u s' ⟨h', i, rfl, hr, hi, m1, g1, b1⟩
      have full : i = es2.size := by
        rcases Nat.lt_or_ge i es2.size with y | y
        · rw [List.drop_eq_getElem_cons (by rw [List.length_range]; exact y)] at hr
          cases hr
        · exact Nat.le_antisymm hi y
      rw [full, ← len, List.take_length] at m1
      exact wpAny_pure (q h' m1 ⟨o2, es2, ep2, g1, ex2, dt2, ks2, ps2, nd2⟩ b1)
end
end KX

set_option autoImplicit false
set_option maxRecDepth 100000
set_option maxHeartbeats 4000000
namespace KX
open PySem PySem.Spec PyProof.Rows L2
section
variable {prog : Program} {w : World} {κ : Type} [DecidableEq κ] {knd : KeyKind prog w κ} {A : Around} {E : Value → Shared → Prop} {s : Shared}
theorem display_stars (knd : KeyKind prog w κ) {vs : List (Sem Value)} {Q : Value → Shared → Prop} (some_ : vs ≠ []) (I : List (Sem Value) → Addr → Shared → Prop)
    (first : I vs s.heap.objs.size { s with heap := s.heap.push { cls := .type "dict", data := .dict #[] } })
    (step : ∀ v rest d s, I (v :: rest) d s → wpAny (model prog w) A v (fun m s1 => ∃ (a : Addr) (kvs more : List (κ × Value)), m = .ref a ∧ d ≠ a ∧ (a == sysModules) = false ∧ s1.heap.DictOf knd d kvs ∧ s1.heap.DictOf knd a more ∧ kvs.length + more.length ≤ sizeLine ∧
      ∀ h', h'.DictOf knd d (merged kvs more) → h'.DictOf knd a more → Heap.SameBut d s1.heap h' → I rest d { s1 with heap := h' }) E s)
    (fin : ∀ d s, I [] d s → Q (.ref d) s) : wpAny (model prog w) A (dictDisplay (vs.map fun v => (none, v))) Q E s := by
  unfold dictDisplay
  dsimp only
  refine wpAny_bind (wpAny_forIn_list _ (fun rest b s' => (b = (none, []) ∧ rest = (vs.map fun v => ((none : Option (Sem Value)), v)) ∧ s' = s) ∨ ∃ (d : Addr) (l : List (Sem Value)), b = (some d, []) ∧ rest = (l.map fun v => ((none : Option (Sem Value)), v)) ∧ I l d s') _ ?_ ?_ _ _ (.inl ⟨rfl, rfl, rfl⟩))
  · rintro ⟨x, v⟩ rest ⟨b1, b2⟩ s' h
    dsimp only
    rcases h with ⟨e, hr, rfl⟩ | ⟨d, l, e, hr, hI⟩
    · obtain ⟨rfl, rfl⟩ := Prod.mk.inj e
      cases vs with
      | nil => exact absurd rfl some_
      | cons u us =>
        rw [List.map_cons] at hr
        obtain ⟨h1, rfl⟩ := List.cons.inj hr
        obtain ⟨rfl, rfl⟩ := Prod.mk.inj h1
        dsimp only
        rw [if_pos (show ([] : List (Sem Value × Sem Value)).isEmpty = true from rfl)]
        refine wpAny_bind (wpAny_pure ?_)
        dsimp only
        refine wpAny_bind (wpAny_alloc ?_)
        refine wpAny_bind (wpAny_holding (wpAny_mono (step v us _ _ first) (fun m s1 hm => ?_) fun _ _ z => z))
        obtain ⟨a, kvs, more, rfl, ne, sy, m1, m2, few, q⟩ := hm
        exact wpAny_bind (wpAny_onRaise (wpAny_tryCatch (wpAny_onRaise (wpAny_holding (merge_pairs ne sy m1 m2 few fun h' x y z => wpAny_pure (.inr ⟨_, us, rfl, rfl, q h' x y z⟩))))))
    · obtain ⟨rfl, rfl⟩ := Prod.mk.inj e
      cases l with
      | nil => cases hr
      | cons u us =>
        rw [List.map_cons] at hr
        obtain ⟨h1, rfl⟩ := List.cons.inj hr
        obtain ⟨rfl, rfl⟩ := Prod.mk.inj h1
        dsimp only
        rw [if_pos (show ([] : List (Sem Value × Sem Value)).isEmpty = true from rfl)]
        refine wpAny_bind (wpAny_pure ?_)
        dsimp only
        refine wpAny_bind (wpAny_pure ?_)
        refine wpAny_bind (wpAny_holding (wpAny_mono (step v us _ _ hI) (fun m s1 hm => ?_) fun _ _ z => z))
        obtain ⟨a, kvs, more, rfl, ne, sy, m1, m2, few, q⟩ := hm
        exact wpAny_bind (wpAny_onRaise (wpAny_tryCatch (wpAny_onRaise (wpAny_holding (merge_pairs ne sy m1 m2 few fun h' x y z => wpAny_pure (.inr ⟨_, us, rfl, rfl, q h' x y z⟩))))))
  · rintro ⟨b1, b2⟩ s' h
    rcases h with ⟨e, hr, rfl⟩ | ⟨d, l, e, hr, hI⟩
    · cases vs with
      | nil => exact absurd rfl some_
      | cons u us => cases hr
    · obtain ⟨rfl, rfl⟩ := Prod.mk.inj e
      cases l with
      | cons u us => cases hr
      | nil =>
        dsimp only
        rw [if_pos (show ([] : List (Sem Value × Sem Value)).isEmpty = true from rfl)]
        exact wpAny_bind (wpAny_pure (wpAny_pure (fin d s' hI)))
end
end KX

set_option autoImplicit false
set_option maxRecDepth 100000
set_option maxHeartbeats 4000000
namespace KX
open PySem PySem.Spec PyProof.Rows L2
/-- the readings of values that are unpacked one behind the other -/
inductive PStars (X : Cx) : List Expr → List TE → Prop
  | nil : PStars X [] []
  | cons {e : Expr} {es : List Expr} {t : TE} {ts : List TE} : PE X e t → PStars X es ts → PStars X (e :: es) (t :: ts)
def tStarsL : List TE → Addr → List (Key × V) → L2.St → Hp → (List (Key × V) → Hp → Prop) → Prop
  | [], _, kvs, _, H, Q => Q kvs H
  | t :: ts, d, kvs, σ, H, Q => t σ H fun v H1 => ∃ (a : Addr) (more : List (Key × V)), v = .ref a ∧ d ≠ a ∧ H1 d = some (.dK kvs) ∧ H1 a = some (.dK more) ∧ kvs.length + more.length ≤ sizeLine ∧ tStarsL ts d (mergeK kvs more) σ (upd H1 d (.dK (mergeK kvs more))) Q
/-- {**a, **b, ..}: the new dict stands empty ahead of the first value -/
def tStars (ts : List TE) : TE := fun σ H Q => ∀ d, H d = none → tStarsL ts d [] σ (upd H d (.dK [])) fun kvs H1 => Q (.ref d) H1
section
variable {X : Cx} {pos : Pos}
theorem star_items (env : Env) (g : Sem Value → Sem Value) : ∀ es : List Expr, (evalEachOpt (es.map fun _ => none) env).zip ((evalEach es env).map g) = ((evalEach es env).map g).map fun v => ((none : Option (Sem Value)), v)
  | [] => rfl
  | e :: es => by
    show (none, g (eval e env)) :: (evalEachOpt (es.map fun _ => none) env).zip ((evalEach es env).map g) = (none, g (eval e env)) :: ((evalEach es env).map g).map fun v => ((none : Option (Sem Value)), v)
    rw [star_items env g es]
theorem pe_stars {keys : List (Option Expr)} {es : List Expr} {ts : List TE} (h : PStars X es ts) (hk : keys = es.map fun _ => none) (some_ : es ≠ []) : PE X (.Dict keys es pos) (tStars ts) := by
  subst hk
  refine ⟨fun pins s σ H Q I q => ?_⟩
  rw [arm_eval_Dict, star_items]
  refine wpAny_bind (wpAny_standAt ?_)
  have hn := I.hok.fresh (Nat.le_refl s.heap.objs.size)
  have I1 := I.laid (a := s.heap.objs.size) (o := .dK []) (h' := s.heap.push { cls := .type "dict", data := .dict #[] }) (t' := s.toks) (fun _ _ q => Heap.get?_push_of_some _ q) (Nat.le_refl _) (dk_empty s.heap I.big)
  refine display_stars (mixKind X.prog X.w) (by cases es with
      | nil => exact absurd rfl some_
      | cons e es => exact List.cons_ne_nil _ _)
    (fun l d s' => ∃ (es' : List Expr) (ts' : List TE) (kvs : List (Key × V)) (H' : Hp), l = (evalEach es' X.env).map (fun v => do let x ← v; standAt pos; pure x) ∧ PStars X es' ts' ∧ Inv X pins σ H' s' ∧ H' d = some (.dK kvs) ∧ tStarsL ts' d kvs σ H' fun kvs H1 => Q (.ref d) H1)
    ⟨es, ts, [], _, rfl, h, I1, upd_same, q _ hn⟩ ?_ ?_
  · rintro v rest d s' ⟨es', ts', kvs, H', hl, hp, I', hd, t⟩
    cases hp with
    | nil => cases hl
    | @cons e es' t' ts' he hp =>
      obtain ⟨rfl, rfl⟩ := List.cons.inj hl
      refine wpAny_bind (thn (he.run pins s' σ H' _ I' t) fun u s1 ⟨x, H1, I2, r, a, more, e1, ne, e2, e3, few, t2⟩ => ?_)
      subst e1
      obtain rfl : u = Value.ref a := r
      refine wpAny_bind (wpAny_standAt (wpAny_pure ?_))
      obtain ⟨z1, y1, vs1, r1, d1⟩ := dk_of I2.hok e2
      obtain ⟨z2, y2, vs2, r2, d2⟩ := dk_of I2.hok e3
      have l1 : kvs.length = vs1.length := Paired.length r1
      have l2 : more.length = vs2.length := Paired.length r2
      refine ⟨a, vs1, vs2, rfl, ne, y2, d1, d2, by omega, fun h' m1 m2 b => ?_⟩
      have few2 : (mergeK kvs more).length ≤ sizeLine := by
        have := length_mergeK more kvs
        omega
      refine ⟨es', ts', mergeK kvs more, _, rfl, hp, d_write I2 (by rw [e2]; exact True.intro) b (let ⟨q, _, _, hq, _⟩ := m1; ⟨q, hq⟩) (dk_new few2 y1 (r2.merge r1) m1), upd_same, t2⟩
  · rintro d s' ⟨es', ts', kvs, H', hl, hp, I', hd, t⟩
    cases hp with
    | nil => exact ⟨.ref d, H', I', rfl, t⟩
    | cons _ _ => cases hl
end
end KX

set_option autoImplicit false
set_option maxRecDepth 100000
set_option maxHeartbeats 4000000
/-! tuple(d), d a dict -/
namespace KX
open PySem PySem.Spec PyProof.Rows L2
section
variable {prog : Program} {w : World} {A : Around} {E : Value → Shared → Prop} {s : Shared} {r d : Addr} {n : Nat} {P : Nat → Value → Prop} {OK : Heap → Prop}
theorem collect_src {T : String} {Q : List Value → Shared → Prop} (S : PySem.W.KdlSrc prog w T r d n P OK) (hh : A.handled = none) (ok : OK s.heap) (few : n ≤ sizeLine)
    (q : ∀ (h' : Heap) (tk : Nat) (acc : Array Value), (∀ b o, s.heap.get? b = some o → h'.get? b = some o) → ItemsOf P acc n → Q acc.toList { s with heap := h', toks := tk }) : wpAny (model prog w) A (collect (.ref r)) Q E s := by
  have lt := S.there _ ok
  unfold collect
  refine wpAny_bind (wpAny_runValue (codeAny_builtin F.entry_proto_collect ?_))
  rw [Around.under_plainId F.plain_proto_collect _]
  show wpAny _ A.in1 (newList [] >>= fun y => again (.builtin "list.__iadd__" ⟨[y, .ref r], []⟩)) _ _ s
  refine wpAny_bind (wpAny_newObj_type (wpAny_pure ⟨plainId_quiet F.plain_list_iadd _, codeAny_builtin F.entry_list_iadd ?_⟩))
  rw [Around.under_plainId F.plain_list_iadd _]
  show wpAny _ A.in1 (Builtin.List.listExtendWith (.ref s.heap.objs.size) (.ref r) (.ref s.heap.objs.size)) _ _ _
  have new : (s.heap.push { cls := .type "list", data := .seq ([] : List Value).toArray }).get? s.heap.objs.size = some { cls := .type "list", data := .seq #[] 0 } := Heap.get?_push_size _ rfl
  refine wpAny_mono (PySem.W.kdl_extend (A := A) (s := { s with heap := s.heap.push { cls := .type "list", data := .seq ([] : List Value).toArray } })
    (R := fun y s' => y = .ok (.ret (.ref s.heap.objs.size)) ∧ ∃ (h' : Heap) (tk : Nat) (acc : Array Value) (c : Nat), s' = { s with heap := h', toks := tk } ∧ (∀ b o, s.heap.get? b = some o → h'.get? b = some o) ∧ h'.get? s.heap.objs.size = some { cls := .type "list", dict := none, data := .seq acc c, slots := #[] } ∧ ItemsOf P acc n)
    S hh (S.keep _ _ ok fun b _ o e => Heap.get?_push_of_some _ e) s.heap.objs.size (Nat.ne_of_gt lt.1) (Nat.ne_of_gt lt.2) (.ref s.heap.objs.size) 0 new
    (fun h' tk acc c kp e it => ⟨rfl, h', tk, acc, c, rfl, fun b o z => kp b o (Nat.ne_of_lt (Heap.lt_size z)) (Heap.get?_push_of_some _ z), e, it⟩) few) (fun fin s' h => ?_) (fun e s' h => absurd h.1 (by simp))
  have last : ∀ s'', (∃ (h' : Heap) (tk : Nat) (acc : Array Value) (c : Nat), s'' = { s with heap := h', toks := tk } ∧ (∀ b o, s.heap.get? b = some o → h'.get? b = some o) ∧ h'.get? s.heap.objs.size = some { cls := .type "list", dict := none, data := .seq acc c, slots := #[] } ∧ ItemsOf P acc n) →
      wpAny (model prog w) A (match Value.ref s.heap.objs.size with
        | Value.ref a => do
          match (← load a).data with
            | Data.seq xs _ => pure xs.toList
            | _ => unsupported "internal:collect"
        | _ => unsupported "internal:collect") Q E s'' := fun s'' y => by
    obtain ⟨h', tk, acc, c, rfl, kp, e, it⟩ := y
    exact wpAny_bind (wpAny_load e (wpAny_pure (q h' tk acc kp it)))
  cases fin with
  | done f =>
    obtain ⟨e, y⟩ := h
    cases e
    exact last _ y
  | again c' =>
    refine ⟨h.1, codeAny_mono h.2 fun z s'' y => ?_⟩
    obtain ⟨rfl, y⟩ := y
    exact last _ y
theorem new_tuple_src {T : String} {Q : Value → Shared → Prop} (S : PySem.W.KdlSrc prog w T r d n P OK) (hh : A.handled = none) (ok : OK s.heap) (few : n ≤ sizeLine) (nt : T ≠ "tuple")
    (q : ∀ (h' : Heap) (tk : Nat) (acc : Array Value), (∀ b o, s.heap.get? b = some o → h'.get? b = some o) → ItemsOf P acc n → Q (.ref h'.objs.size) { s with heap := h'.push { cls := .type "tuple", data := .seq acc }, toks := tk }) :
    codeAny (model prog w) A (.call (.builtin "tuple.__new__") ⟨[.type "tuple", .ref r], []⟩) (wants Q E) s := by
  refine codeAny_of_tree ?_
  show wpAny _ A.in1 (do checkBuiltinCall "tuple.__new__" ⟨[.type "tuple", .ref r], []⟩; again (.builtin "tuple.__new__" ⟨[.type "tuple", .ref r], []⟩)) _ _ s
  refine wpAny_bind (wpAny_of_eq (F.newCall_tuple_1 _) (wpAny_pure ⟨plainId_quiet F.plain_tuple_new _, codeAny_builtin F.entry_tuple_new ?_⟩))
  rw [Around.under_plainId F.plain_tuple_new _]
  have y1 := sub_tuple_self
  have y2 := init_tuple_lookup
  have y3 := madeHere_tuple
  have ty : s.TypeIs (.ref r) T := S.type _ ok
  have hh1 : A.in1.handled = none := hh
  have ne : (Value.type T == Value.type "tuple") = false := by
    rw [beq_eq_false_iff_ne]
    exact fun z => nt (Value.type.inj z)
  wp_walk using wpAny_typeOf ty, collect_src (A := A.in1) S hh1 ok few
  intro h' tk acc kp it
  have same : acc.toList.toArray = acc := by simp
  show wpAny _ _ (Builtin.Tuple.tupleExact acc.toList.toArray >>= fun v => ret v) _ _ _
  rw [same]
  unfold Builtin.Tuple.tupleExact
  exact wpAny_bind (wpAny_newObj_type (wpAny_pure (q h' tk acc kp it)) (by show acc.size ≤ sizeLine; rw [it.1]; exact few))
end
/-- tuple(d): the keys -/
def rTupD : List V → Hp → VK → Prop := fun xs H Q => ∃ p kvs, xs = [.ref p] ∧ H p = some (.dK kvs) ∧ ∀ q, H q = none → Q (.ref q) (upd H q (.tup (kvs.map fun kv => kV kv.1)))
theorem call_tuple_dK {X : Cx} (hc : X.calm = true) : CallR X (.type "tuple") rTupD := by
  intro pins s σ H xs us Q I r h
  obtain ⟨p, kvs, rfl, e, q⟩ := h
  obtain ⟨u, rfl, rx⟩ := vals1 r
  obtain rfl : u = Value.ref p := rx
  obtain ⟨few, lo, vs, rk, dd⟩ := dk_of I.hok e
  obtain ⟨ep, dat⟩ := dd.dictAt
  have ln : kvs.length = vs.length := Paired.length rk
  refine callType_codes (Q₁ := fun y s1 => s1.TypeIs y "tuple" ∧ EP X pins σ Q y s1) F.called_tuple (F.typeCall_tuple_1 _) F.entry_object_init
    (new_tuple_src (A := X.A.in1) (PySem.W.kdl_dict (knd := mixKind X.prog X.w) (kvs := vs) (ep := ep) lo) (I.ok.hd hc) dat (by omega) (by decide) fun h' tk acc kp it => ⟨⟨_, Heap.get?_push_size _ rfl, rfl⟩, ?_⟩) fun y s1 h1 =>
      ⟨h1.1, F.args_object_init_2 y _, object_init_meets F.called_tuple.init.lookup F.called_tuple.made (by decide) X.prog X.w X.A.in1 _ s1 ⟨h1.1, rfl, h1.2⟩⟩
  have I1 : Inv X pins σ H { s with heap := h', toks := tk } := I.kept kp
  refine ⟨.ref h'.objs.size, _, I1.laid (a := h'.objs.size) (o := .tup (kvs.map fun kv => kV kv.1)) (h' := h'.push { cls := .type "tuple", data := .seq acc }) (t' := tk) (fun b o z => Heap.get?_push_of_some _ z) (Nat.le_refl _) ⟨?_, acc.toList, ?_, ?_⟩, rfl, q _ (I1.hok.fresh (Nat.le_refl _))⟩
  · rw [List.length_map]
    exact few
  · have la : acc.toList.length = acc.size := by simp
    refine vals_of_at (by rw [List.length_map, la, it.1, ln]) fun j y z h1 h2 => ?_
    obtain ⟨k, v, hk, hi⟩ := it.2 j z (by rw [← Array.getElem?_toList]; exact h2)
    have e1 : (kvs.map (·.1))[j]? = some k := by
      rw [KV.keys rk, List.getElem?_map, hk]
      rfl
    rw [List.getElem?_map] at e1 h1
    obtain ⟨p1, hp, rfl⟩ := Option.map_eq_some_iff.mp e1
    rw [hp] at h1
    cases h1
    exact keyIs_rel hi
  · have same : acc.toList.toArray = acc := by simp
    rw [same]
    exact IsTup.new _ _
end KX

set_option maxRecDepth 100000
set_option maxHeartbeats 4000000
namespace K03
open PySem PySem.Spec PyProof.Rows L2
theorem scIsName : FnScope ["value", "letter"] ["value"] (defScope sIsName) :=
  ⟨rfl, rfl, rfl, by decide +kernel, rfl, by decide +kernel, by decide +kernel⟩
theorem same_upd {H : Hp} {p : Addr} {o : HO} (h : H p = none) : Same H (upd H p o) := fun b x e => by
  rw [upd_ne (ne_of_none e h)]
  exact e
def isLet (c : Nat) : Bool := decide (97 ≤ c ∧ c ≤ 122)
/-- what a name is, by its signs -/
def nameS (z : Str) : Bool := decide (1 ≤ z.length ∧ z.length ≤ 8) && z.cps.toList.all isLet
inductive NameOf (K : PySem.W.Frag) (H : Hp) : V → Bool → Prop
  | str (z : Str) (h : z.length ≤ 1000) (ok : ∀ c ∈ z.cps.toList, c < 0x110000) : NameOf K H (.str z) (nameS z)
  | odd {v : V} {t : String} (h : TyX K H v (.type t)) (k : kitB t "str" = some false) : NameOf K H v false
def spName (K : PySem.W.Frag) : Sp := fun vs H Q _ => ∃ (v : V) (b : Bool), vs = [v] ∧ NameOf K H v b ∧ ∀ H', Same H H' → Q (.bl b) H'
theorem lc_str {x : Str} {g : TG} {tt : TT} {te : TE} {vs : List Nat} {σ : L2.St} {H1 : Hp} {D : Addr} {Qd : Hp → Prop} (Pv : Nat → Hp → Prop) (h0 : Pv 0 (upd H1 D (.lst [])))
    (hs : ∀ i c H, x.cps.toList[i]? = some c → Pv i H → g (.str ⟨#[c]⟩) (wipe σ vs) H fun σ2 H2 => wipe σ2 vs = wipe σ vs ∧ tt σ2 H2 fun b H3 =>
      if b = true then te σ2 H3 fun y H4 => ∃ acc, H4 D = some (.lst acc) ∧ acc.length < sizeLine ∧ Pv (i + 1) (upd H4 D (.lst (acc ++ [y]))) else Pv (i + 1) H3) (hd : ∀ H, Pv x.cps.toList.length H → Qd H) :
    ∃ W : Nat → Nat → Hp → Prop, (∃ m, W 0 m (upd H1 D (.lst []))) ∧ ∀ i m H, W i m H →
      ((Its x).stop i H ∧ Qd H) ∨ ((Its x).go i H ∧ ∃ Nx : Hp → Prop, (∀ H', Nx H' → ∃ m', m' < m ∧ W (i + 1) m' H') ∧ ∀ y H', (Its x).yld i H y H' → g y (wipe σ vs) H' fun σ2 H2 => wipe σ2 vs = wipe σ vs ∧ tt σ2 H2 fun b H3 =>
        if b = true then te σ2 H3 fun y H4 => ∃ acc, H4 D = some (.lst acc) ∧ acc.length < sizeLine ∧ Nx (upd H4 D (.lst (acc ++ [y]))) else Nx H3) := by
  refine ⟨fun i m H => m = x.cps.size - i ∧ i ≤ x.cps.size ∧ Pv i H, ⟨x.cps.size, by simp, Nat.zero_le _, h0⟩, ?_⟩
  rintro i m H ⟨rfl, hi, p⟩
  by_cases hlt : i < x.cps.size
  · refine .inr ⟨hlt, Pv (i + 1), fun H' p' => ⟨x.cps.size - (i + 1), by omega, rfl, hlt, p'⟩, fun y H' hy => ?_⟩
    obtain ⟨rfl, c, hc, rfl⟩ := hy
    exact hs i c _ (by simpa using hc) p
  · have e : i = x.cps.size := by omega
    subst e
    exact .inl ⟨Nat.le_refl _, hd H (by simpa using p)⟩
theorem letter_in (c : Nat) : decide (c ∈ ("abcdefghijklmnopqrstuvwxyz" : Str).cps.toList) = isLet c := by
  have e : ("abcdefghijklmnopqrstuvwxyz" : Str).cps.toList = List.range' 97 26 := by decide +kernel
  rw [e]
  unfold isLet
  refine decide_eq_decide.mpr ?_
  rw [List.mem_range'_1]
  omega
section
variable {P : Program} {w : World} {K : PySem.W.Frag} {mg : Str → Option Value} {base : Heap}
theorem ok_isName {f : Addr} {fd : FuncData} {tl tm : Tok} (F : Fun K "is_name" "is_name" sIsName f fd) (mi : mg "isinstance" = none) (ms : mg "str" = none) (ml : mg "len" = none) (ma : mg "all" = none) (gL : mg "LETTERS" = some (.str "abcdefghijklmnopqrstuvwxyz" tl)) (gM : mg "MAX_LETTERS" = some (.int 8 tm)) :
    FnOk P w K mg base CX0 1 f fd ["value"] (spName K) := by
  refine F.ok scIsName (fun vs H Q E h => ?_) (fun cdv A outer s H vs Q E hr h => ?_)
  · obtain ⟨v, b, rfl, _⟩ := h
    rfl
  · obtain ⟨v, b, rfl, hn, q⟩ := h
    refine ⟨_, pss_cons (ps_if (PW.pt (pw_or (pt_not (pt_val (pe_callB call_isi (by rfl) mi (by decide +kernel) (pa_cons (pv 0) (pa_cons (pe_bltn (v := .ty "str") (by rfl) ms (by decide +kernel) rfl) pa_nil)))))
          (pw_or1 (pt_not (pt_chain op_le op_le pe_int (pe_callB call_len_str (by rfl) ml PySem.boot_len (pa_cons (pv 0) pa_nil)) (pe_glob (v := .int 8) (by rfl) gM ⟨_, rfl⟩))))))
        (pss_one (ps_ret pe_bl)) pss_nil)
      (pss_one (ps_ret (pe_callB (cr_all rfl) (by rfl) ma (by decide +kernel) (pa_cons
        (pe_lc (own := [("letter", 1)]) (g := gName 1) (tt := tYes) rfl scIsName.nd (pi_str (pv 0)) (blkOk_by (N := ["value", "letter"]) (sc := defScope sIsName) (by decide +kernel))
          (fun _ _ _ _ _ => pg_name (i := 1) scIsName.nd rfl (Or.inl rfl)) (fun _ _ _ _ _ => pts_nil) (fun _ _ _ _ _ => pe_cmpR op_in_sign (pv 1) (pe_glob (v := .str "abcdefghijklmnopqrstuvwxyz") (by rfl) gL ⟨_, rfl⟩) rfl)) pa_nil)))), ?_⟩
    cases hn with
    | odd hty hk =>
      exact ⟨v, rfl, v, .ty "str", _, _, false, rfl, .ty _, hty, kit_ty hk, _, rfl, q H (Same.refl H)⟩
    | str z hz hok =>
      refine ⟨_, rfl, .str z, .ty "str", .type "str", .type "str", true, rfl, .ty _, .base (.str z), kit_ty (by decide +kernel), true, rfl, ?_⟩
      refine ⟨.str z, rfl, z, rfl, Nat.le_trans hz (by decide), 1, _, rfl, rfl, _, rfl, ?_⟩
      refine ite2 (fun e1 => ?_) (fun e1 => ?_)
      · have h1 : (1 : Int) ≤ z.length := of_decide_eq_true e1
        refine ⟨_, _, rfl, rfl, _, rfl, ite2 (fun e2 => ?_) (fun e2 => ?_)⟩
        · have h2 : ¬ ((z.length : Int) ≤ 8) := fun q => by
            rw [decide_eq_true q] at e2
            cases e2
          have en : nameS z = false := by
            unfold nameS
            rw [decide_eq_false (by omega), Bool.false_and]
          rw [en] at q
          exact q H (Same.refl H)
        · have h2 : (z.length : Int) ≤ 8 := by
            have e3 : decide ((z.length : Int) ≤ 8) = true := by
              cases e4 : decide ((z.length : Int) ≤ 8) with
              | true => rfl
              | false =>
                rw [e4] at e2
                exact absurd rfl e2
            exact of_decide_eq_true e3
          refine ⟨.str z, rfl, z, rfl, fun D hD => ?_⟩
          have ltb : z.cps.toList.length ≤ 8 := by
            have : z.length = z.cps.toList.length := by simp [Str.length]
            omega
          refine lc_str (fun i H' => H' = upd H D (.lst ((z.cps.toList.take i).map fun c => V.bl (isLet c)))) rfl (fun i c H' hc hP => ?_) (fun H' hP => ?_)
          · subst hP
            refine ⟨rfl, _, rfl, c, _, rfl, rfl, _, upd_same, ?_, ?_⟩
            · rw [List.length_map, List.length_take]
              have : sizeLine = sizeLine := rfl
              rw [sizeLine_eq]
              omega
            · rw [upd_upd, List.take_add_one, hc, List.map_append, letter_in]
              rfl
          · subst hP
            refine ⟨D, z.cps.toList.map isLet, rfl, SqL.of ?_, ?_⟩
            · rw [upd_same, List.take_length, List.map_map]
              rfl
            · have en : nameS z = (z.cps.toList.map isLet).all id := by
                unfold nameS
                rw [decide_eq_true (by omega), Bool.true_and, List.all_map]
                rfl
              rw [← en]
              exact q _ (same_upd hD)
      · have h1 : ¬ (1 : Int) ≤ z.length := fun h => e1 (decide_eq_true h)
        have en : nameS z = false := by
          unfold nameS
          rw [decide_eq_false (by omega), Bool.false_and]
        rw [en] at q
        exact ⟨_, rfl, q H (Same.refl H)⟩
end
end K03

set_option maxRecDepth 100000
set_option maxHeartbeats 4000000
/-! repr of lists of what is known, an empty dict among it -/
namespace KX
open PySem PySem.Spec PyProof.Rows L2
mutual
/-- v is read as d -/
inductive Shw (H : Hp) : V → PyData → Prop
  | non : Shw H .non .none
  | bl (b : Bool) : Shw H (.bl b) (.bool b)
  | int (i : Int) : Shw H (.int i) (.int i)
  | str (x : Str) : Shw H (.str x) (.str x)
  | lst {a : Addr} {xs : List V} {ds : List PyData} : H a = some (.lst xs) → ShwAll H xs ds → Shw H (.ref a) (.list ds)
  | tup {a : Addr} {xs : List V} {ds : List PyData} : H a = some (.tup xs) → ShwAll H xs ds → Shw H (.ref a) (.tuple ds)
  | dct {a : Addr} : H a = some (.dK []) → Shw H (.ref a) (.dict [])
inductive ShwAll (H : Hp) : List V → List PyData → Prop
  | nil : ShwAll H [] []
  | cons {v : V} {vs : List V} {d : PyData} {ds : List PyData} : Shw H v d → ShwAll H vs ds → ShwAll H (v :: vs) (d :: ds)
end
section
variable {H H' : Hp}
mutual
theorem Shw.grow (g : ∀ b o, H b = some o → (∀ ps, o ≠ .tbl ps) → H' b = some o) : ∀ {v : V} {d : PyData}, Shw H v d → Shw H' v d
  | _, _, .non => .non
  | _, _, .bl b => .bl b
  | _, _, .int i => .int i
  | _, _, .str x => .str x
  | _, _, .lst h r => .lst (g _ _ h fun _ z => nomatch z) (ShwAll.grow g r)
  | _, _, .tup h r => .tup (g _ _ h fun _ z => nomatch z) (ShwAll.grow g r)
  | _, _, .dct h => .dct (g _ _ h fun _ z => nomatch z)
theorem ShwAll.grow (g : ∀ b o, H b = some o → (∀ ps, o ≠ .tbl ps) → H' b = some o) : ∀ {vs : List V} {ds : List PyData}, ShwAll H vs ds → ShwAll H' vs ds
  | _, _, .nil => .nil
  | _, _, .cons a r => .cons (Shw.grow g a) (ShwAll.grow g r)
end
theorem ShwAll.app : ∀ {xs ys : List V} {ds es : List PyData}, ShwAll H xs ds → ShwAll H ys es → ShwAll H (xs ++ ys) (ds ++ es)
  | _, _, _, _, .nil, h => h
  | _, _, _, _, .cons a r, h => .cons a (ShwAll.app r h)
theorem ShwAll.at : ∀ {xs : List V} {ds : List PyData}, xs.length = ds.length → (∀ (i : Nat) (x : V) (d : PyData), xs[i]? = some x → ds[i]? = some d → Shw H x d) → ShwAll H xs ds
  | [], [], _, _ => .nil
  | x :: xs, d :: ds, hl, h => .cons (h 0 x d rfl rfl) (ShwAll.at (by simpa using hl) fun i y e h1 h2 => h (i + 1) y e (by simpa using h1) (by simpa using h2))
  | [], _ :: _, hl, _ => by simp at hl
  | _ :: _, [], hl, _ => by simp at hl
end
section
variable {P : Program} {w : World} {H : Hp} {h : Heap}
theorem lst_get (ok : HOk P w H h) {a : Addr} {xs : List V} (e : H a = some (.lst xs)) : xs.length ≤ sizeLine ∧ ∃ (its : List Value) (n : Nat), Vals xs its ∧ h.get? a = some { cls := .type "list", data := .seq its.toArray n } := ok a _ e
theorem tup_get (ok : HOk P w H h) {a : Addr} {xs : List V} (e : H a = some (.tup xs)) : xs.length ≤ sizeLine ∧ ∃ its : List Value, Vals xs its ∧ IsTup h a its.toArray := ok a _ e
theorem dct_get (ok : HOk P w H h) {a : Addr} (e : H a = some (.dK [])) : (a == sysModules) = false ∧ ∃ (o : Obj) (n : Nat), h.get? a = some o ∧ o.cls = .type "dict" ∧ o.data = .dict #[] n := by
  obtain ⟨_, hs, vs, r, o, es, ep, h1, h2, h3, h4⟩ := (ok a _ e : ObjOk P w H h a (.dK []))
  refine ⟨hs, o, ep, h1, h2.1, ?_⟩
  cases r
  have e0 : es.toList = [] := by
    have q := h4.2.1
    generalize es.toList = l at q
    cases q
    rfl
  rw [h3, show es = #[] from Array.toList_eq_nil_iff.mp e0]
mutual
theorem shw_reads (ok : HOk P w H h) : ∀ (d : PyData) (v : V) (u : Value), Shw H v d → RelV v u → ∃ as, Reads h u d as
  | .none, _, _, x, r => by
    cases x
    cases r
    exact ⟨[], .none⟩
  | .bool b, _, _, x, r => by
    cases x
    cases r
    exact ⟨[], .bool b⟩
  | .int i, _, _, x, r => by
    cases x
    obtain ⟨t, e⟩ := r
    subst e
    exact ⟨[], .int i t⟩
  | .str y, _, _, x, r => by
    cases x
    obtain ⟨t, e⟩ := r
    subst e
    exact ⟨[], .str y t⟩
  | .list ds, _, _, x, r => by
    cases x with
    | lst e ha =>
      cases r
      obtain ⟨_, its, n, rv, g⟩ := lst_get ok e
      obtain ⟨as, q⟩ := shw_readsAll ok ds _ its ha rv
      exact ⟨_, .list g rfl rfl q⟩
  | .tuple ds, _, _, x, r => by
    cases x with
    | tup e ha =>
      cases r
      obtain ⟨_, its, rv, ⟨o, g, gc, n, gd⟩⟩ := tup_get ok e
      obtain ⟨as, q⟩ := shw_readsAll ok ds _ its ha rv
      exact ⟨_, .tuple g gc gd q⟩
  | .dict kvs, _, _, x, r => by
    cases x with
    | dct e =>
      cases r
      obtain ⟨_, o, n, g, gc, gd⟩ := dct_get ok e
      exact ⟨_, .dict g gc gd (kvs := []) .nil .nil⟩
theorem shw_readsAll (ok : HOk P w H h) : ∀ (ds : List PyData) (vs : List V) (us : List Value), ShwAll H vs ds → Vals vs us → ∃ as, ReadsAll h us ds as
  | [], _, _, x, r => by
    cases x
    cases r
    exact ⟨[], .nil⟩
  | d :: ds, _, _, x, r => by
    cases x with
    | cons x1 x2 =>
      cases r with
      | cons r1 r2 =>
        obtain ⟨as, q1⟩ := shw_reads ok d _ _ x1 r1
        obtain ⟨bs, q2⟩ := shw_readsAll ok ds _ _ x2 r2
        exact ⟨_, .cons q1 q2⟩
end
theorem none_mem {n : Nat} : ReadAtMost h n [] := fun _ z => nomatch z
mutual
theorem shw_repr (ok : HOk P w H h) : ∀ (d : PyData) (v : V) (u : Value), Shw H v d → RelV v u → d.showable = true → d.shown.length ≤ sizeLine → ∃ bs, ReadAtMost h d.depth bs ∧ ReprK P w bs h d.depth u d.shown
  | .none, _, _, x, r, hs, hz => by
    cases x
    cases r
    refine ⟨[], none_mem, ?_⟩
    simp only [PyData.shown]
    exact .of_is ReprIs.none _ _ _
  | .bool b, _, _, x, r, hs, hz => by
    cases x
    cases r
    refine ⟨[], none_mem, ?_⟩
    simp only [PyData.shown]
    exact .of_is (ReprIs.bool b) _ _ _
  | .int i, _, _, x, r, hs, hz => by
    cases x
    obtain ⟨t, e⟩ := r
    subst e
    refine ⟨[], none_mem, ?_⟩
    simp only [PyData.shown]
    exact .of_is (ReprIs.int t (by simpa [PyData.showable] using hs)) _ _ _
  | .str y, _, _, x, r, hs, hz => by
    cases x
    obtain ⟨t, e⟩ := r
    subst e
    refine ⟨[], none_mem, ?_⟩
    simp only [PyData.shown] at hz ⊢
    exact .of_is (ReprIs.str y t hz) _ _ _
  | .list ds, v, u, x, r, hs, hz => by
    obtain ⟨as0, rd⟩ := shw_reads ok _ v u x r
    cases x with
    | lst e ha =>
      cases r
      obtain ⟨_, its, n, rv, g⟩ := lst_get ok e
      have hz1 : (listText (PyData.shownAll ds)).length ≤ sizeLine := by simpa only [PyData.shown] using hz
      obtain ⟨bs, hb, hk⟩ := shw_reprAll ok ds _ its ha rv (by simpa only [PyData.showable] using hs) fun t ht => Nat.le_trans (listText_mem_le ht) hz1
      have hna := not_mem_of_deeper rd (by simp only [PyData.depth]; omega) hb
      refine ⟨_, ReadAtMost.cons rd (by simp only [PyData.depth]; omega) hb, ?_⟩
      simp only [PyData.depth, PyData.shown]
      cases its with
      | nil =>
        cases rv
        cases ha
        simp only [PyData.shownAll, listText_nil]
        exact ReprK.listEmpty g rfl rfl
      | cons y l => exact ReprK.list g rfl rfl hna (by simpa using hk.length_eq) fun i z q => hk.item i z (by simpa using q)
  | .tuple ds, v, u, x, r, hs, hz => by
    obtain ⟨as0, rd⟩ := shw_reads ok _ v u x r
    cases x with
    | tup e ha =>
      cases r
      obtain ⟨_, its, rv, ⟨o, g, gc, n, gd⟩⟩ := tup_get ok e
      have hz1 : (tupleText (PyData.shownAll ds)).length ≤ sizeLine := by simpa only [PyData.shown] using hz
      obtain ⟨bs, hb, hk⟩ := shw_reprAll ok ds _ its ha rv (by simpa only [PyData.showable] using hs) fun t ht => Nat.le_trans (tupleText_mem_le ht) hz1
      have hna := not_mem_of_deeper rd (by simp only [PyData.depth]; omega) hb
      refine ⟨_, ReadAtMost.cons rd (by simp only [PyData.depth]; omega) hb, ?_⟩
      simp only [PyData.depth, PyData.shown]
      exact ReprK.tuple g gc gd hna hk
  | .dict kvs, v, u, x, r, hs, hz => by
    obtain ⟨as0, rd⟩ := shw_reads ok _ v u x r
    cases x with
    | dct e =>
      cases r
      obtain ⟨sy, o, n, g, gc, gd⟩ := dct_get ok e
      refine ⟨_, ReadAtMost.cons rd (n := 0) (Nat.zero_le _) none_mem, ?_⟩
      simp only [PyData.depth, PyData.shown]
      exact ReprK.dict g gc gd sy (fun z => nomatch z) .nil
theorem shw_reprAll (ok : HOk P w H h) : ∀ (ds : List PyData) (vs : List V) (us : List Value), ShwAll H vs ds → Vals vs us → PyData.showableAll ds = true → (∀ t ∈ PyData.shownAll ds, t.length ≤ sizeLine) → ∃ bs, ReadAtMost h (PyData.depthAll ds) bs ∧ ReprAllK P w bs h (PyData.depthAll ds) us (PyData.shownAll ds)
  | [], _, _, x, r, hs, hz => by
    cases x
    cases r
    refine ⟨[], none_mem, ?_⟩
    simp only [PyData.shownAll]
    exact .nil
  | d :: ds, _, _, x, r, hs, hz => by
    cases x with
    | cons x1 x2 =>
      cases r with
      | cons r1 r2 =>
        simp only [PyData.showableAll, Bool.and_eq_true] at hs
        simp only [PyData.shownAll, List.mem_cons, forall_eq_or_imp] at hz
        obtain ⟨b1, h1, k1⟩ := shw_repr ok d _ _ x1 r1 hs.1 hz.1
        obtain ⟨b2, h2, k2⟩ := shw_reprAll ok ds _ _ x2 r2 hs.2 hz.2
        simp only [PyData.depthAll, PyData.shownAll]
        refine ⟨b1 ++ b2, (h1.mono (Nat.le_max_left _ _)).append (h2.mono (Nat.le_max_right _ _)), .cons ((k1.more fun b q => List.mem_append_left _ q).level_le (Nat.le_max_left _ _)) (k2.more_le (fun b q => List.mem_append_right _ q) (Nat.le_max_right _ _))⟩
end
end
/-- repr(xs), xs a list that is not empty -/
def rReprL : List V → Hp → VK → Prop := fun vs H Q => ∃ (a : Addr) (x : V) (xs : List V) (ds : List PyData), vs = [.ref a] ∧ H a = some (.lst (x :: xs)) ∧ ShwAll H (x :: xs) ds ∧ (PyData.list ds).showable = true ∧ (PyData.list ds).depth ≤ 60 ∧ (PyData.list ds).shown.length ≤ 1000000 ∧ Q (.str (PyData.list ds).shown) H
theorem call_reprL {X : Cx} (hg : X.A.guards = some []) (hu : X.A.units + 64 < cLine) : CallR X (.builtin "repr") rReprL := by
  intro pins s σ H vs us Q I r h
  obtain ⟨a, x, xs, ds, rfl, e, ha, hs, hd, hz, q⟩ := h
  obtain ⟨u, rfl, rr⟩ := vals1 r
  obtain rfl : u = Value.ref a := rr
  have hz1 : (listText (PyData.shownAll ds)).length ≤ sizeLine := by
    simp only [PyData.shown] at hz
    rw [sizeLine_eq]
    omega
  obtain ⟨as0, rd⟩ := shw_reads I.hok (.list ds) (.ref a) (.ref a) (.lst e ha) rfl
  obtain ⟨_, its, n, rv, g⟩ := lst_get I.hok e
  obtain ⟨bs, hb, hk⟩ := shw_reprAll I.hok ds _ its ha rv (by simpa only [PyData.showable] using hs) fun t ht => Nat.le_trans (listText_mem_le ht) hz1
  have hna := not_mem_of_deeper rd (by simp only [PyData.depth]; omega) hb
  simp only [PyData.depth] at hd
  simp only [PyData.shown] at q
  cases its with
  | nil => cases rv
  | cons y l =>
    refine call_repr_slot (by omega) ⟨_, g, rfl⟩ F.slot_list_repr.toG ?_
    refine call_list_reprK g rfl rfl hna (by simpa using hk.length_eq) (fun i z w' => hk.item i z (by simpa using w')) hg (fun b _ => Clear.nil b) (by show X.A.units + 1 + _ < _; omega) (fun _ _ z => z) (fun h' t tk kp => ?_) hz1
    exact ⟨_, _, rfl, .str _, H, I.kept kp, ⟨t, rfl⟩, q⟩
end KX

set_option autoImplicit false
set_option maxRecDepth 100000
set_option maxHeartbeats 4000000
namespace K03
open PySem PySem.Spec PyProof.Rows L2 KX
/-! data: which is a name, names, arrays -/
def isNm : PyData → Bool
  | .str z => nameS z
  | _ => false
def areNm (n : Nat) : PyData → Bool
  | .tuple ds => decide (ds.length ≤ n) && ds.all isNm
  | _ => false
def lenD : PyData → Nat
  | .tuple ds => ds.length
  | _ => 0
def isPr (d : PyData) : Bool := areNm 2 d && decide (lenD d = 2)
def areArr : PyData → Bool
  | .tuple ds => decide (ds.length ≤ 12) && ds.all isPr
  | _ => false
mutual
/-- every text is short and of signs that there are; lists and tuples are short -/
def gd : PyData → Bool
  | .str z => decide (z.length ≤ 1000) && z.cps.toList.all fun c => decide (c < 0x110000)
  | .list xs | .tuple xs => decide (xs.length ≤ 1000) && gdAll xs
  | .none | .bool _ | .int _ | .dict _ => true
def gdAll : List PyData → Bool
  | [] => true
  | x :: xs => gd x && gdAll xs
end
theorem gdAll_mem : ∀ {xs : List PyData} {x : PyData}, gdAll xs = true → x ∈ xs → gd x = true
  | [], _, _, h => nomatch h
  | y :: ys, x, h, m => by
    simp only [gdAll, Bool.and_eq_true] at h
    rcases List.mem_cons.mp m with rfl | m
    · exact h.1
    · exact gdAll_mem h.2 m
def tyD : PyData → String
  | .none => "NoneType"
  | .bool _ => "bool"
  | .int _ => "int"
  | .str _ => "str"
  | .list _ => "list"
  | .tuple _ => "tuple"
  | .dict _ => "dict"
section
variable {K : PySem.W.Frag} {H H' : Hp} {v : V} {d : PyData}
theorem shw_ty (s : Shw H v d) : TyX K H v (.type (tyD d)) := by
  cases s with
  | non => exact .base .non
  | bl b => exact .base (.bl b)
  | int i => exact .base (.int i)
  | str x => exact .base (.str x)
  | lst e _ => exact .base (.lst e)
  | tup e _ => exact .base (.tup e)
  | dct e => exact .base (.dK e)
theorem shw_name (s : Shw H v d) (g : gd d = true) : NameOf K H v (isNm d) := by
  have t := shw_ty (K := K) s
  cases s with
  | str x =>
    simp only [gd, Bool.and_eq_true, decide_eq_true_eq] at g
    exact .str x g.1 fun c hc => of_decide_eq_true (List.all_eq_true.mp g.2 c hc)
  | non => exact .odd t (by show kitB "NoneType" "str" = some false; decide +kernel)
  | bl b => exact .odd t (by show kitB "bool" "str" = some false; decide +kernel)
  | int i => exact .odd t (by show kitB "int" "str" = some false; decide +kernel)
  | lst e _ => exact .odd t (by show kitB "list" "str" = some false; decide +kernel)
  | tup e _ => exact .odd t (by show kitB "tuple" "str" = some false; decide +kernel)
  | dct e => exact .odd t (by show kitB "dict" "str" = some false; decide +kernel)
theorem Shw.same (s : Shw H v d) (g : Same H H') : Shw H' v d := s.grow fun b o e _ => g b o e
theorem ShwAll.same {vs : List V} {ds : List PyData} (s : ShwAll H vs ds) (g : Same H H') : ShwAll H' vs ds := s.grow fun b o e _ => g b o e
theorem ShwAll.len : ∀ {vs : List V} {ds : List PyData}, ShwAll H vs ds → vs.length = ds.length
  | _, _, .nil => rfl
  | _, _, .cons _ r => by rw [List.length_cons, List.length_cons, ShwAll.len r]
theorem ShwAll.get : ∀ {vs : List V} {ds : List PyData} {i : Nat} {x : V}, ShwAll H vs ds → vs[i]? = some x → ∃ d, ds[i]? = some d ∧ Shw H x d
  | _, _, i, x, .nil, h => by simp at h
  | _, _, 0, x, .cons a r, h => by
    rw [List.getElem?_cons_zero] at h
    cases h
    exact ⟨_, rfl, a⟩
  | _, _, i + 1, x, .cons a r, h => by
    rw [List.getElem?_cons_succ] at h
    obtain ⟨d, h1, h2⟩ := ShwAll.get r h
    exact ⟨d, by rw [List.getElem?_cons_succ]; exact h1, h2⟩
end
/-- a comprehension over a tuple of data, each element told by its datum -/
theorem lc_tupD {K : PySem.W.Frag} {a : Addr} {xs : List V} {ds : List PyData} {g : TG} {te : TE} {vs : List Nat} {σ : L2.St} {H1 : Hp} {D : Addr} {Qd : Hp → Prop} (G : PyData → V) (hx : H1 a = some (.tup xs)) (n : H1 D = none) (few : xs.length ≤ 100000) (sh : ShwAll H1 xs ds)
    (step : ∀ (x : V) (d : PyData) (H' : Hp) (Q' : VK), x ∈ xs → d ∈ ds → Shw H' x d → Same H1 H' → (∀ H4, Same H' H4 → Q' (G d) H4) → g x (wipe σ vs) H' fun σ2 H2 => wipe σ2 vs = wipe σ vs ∧ te σ2 H2 Q')
    (fin : ∀ H', Same H1 H' → H' D = some (.lst (ds.map G)) → Qd H') :
    ∃ W : Nat → Nat → Hp → Prop, (∃ m, W 0 m (upd H1 D (.lst []))) ∧ ∀ i m H, W i m H →
      ((Itt K a).stop i H ∧ Qd H) ∨ ((Itt K a).go i H ∧ ∃ Nx : Hp → Prop, (∀ H', Nx H' → ∃ m', m' < m ∧ W (i + 1) m' H') ∧ ∀ x H', (Itt K a).yld i H x H' → g x (wipe σ vs) H' fun σ2 H2 => wipe σ2 vs = wipe σ vs ∧ tYes σ2 H2 fun b H3 =>
        if b = true then te σ2 H3 fun y H4 => ∃ acc, H4 D = some (.lst acc) ∧ acc.length < sizeLine ∧ Nx (upd H4 D (.lst (acc ++ [y]))) else Nx H3) := by
  have ln := ShwAll.len sh
  refine lc_tup (K := K) (a := a) (xs := xs) (fun m H' => Same H1 H' ∧ H' D = some (.lst ((ds.take m).map G))) ⟨same_upd n, by rw [List.take_zero]; exact upd_same⟩ (fun m H' _ hP => SqT.of (hP.1 _ _ hx)) (fun m x H' hm hP => ?_) (fun H' hP => ?_)
  · obtain ⟨s1, d1⟩ := hP
    obtain ⟨d, hd, sd⟩ := ShwAll.get sh hm
    refine step x d H' _ (List.mem_of_getElem? hm) (List.mem_of_getElem? hd) (Shw.same sd s1) s1 fun H4 s4 => ⟨_, s4 _ _ d1, ?_, fun b o e => ?_, ?_⟩
    · have := (List.getElem?_eq_some_iff.mp hm).1
      rw [List.length_map, List.length_take, sizeLine_eq]
      omega
    · rw [upd_ne (ne_of_none e n)]
      exact s4 _ _ (s1 _ _ e)
    · rw [upd_same, List.take_add_one, hd, List.map_append]
      rfl
  · obtain ⟨s1, d1⟩ := hP
    rw [ln, List.take_length] at d1
    exact fin H' s1 d1
end K03

set_option autoImplicit false
set_option maxRecDepth 100000
set_option maxHeartbeats 4000000
namespace K03
open PySem PySem.Spec PyProof.Rows L2 KX
/-- a def of the module, with its promise -/
structure Fnc (P : Program) (w : World) (K : PySem.W.Frag) (mg : Str → Option Value) (base : Heap) (CX : CXT) (k : Nat) (x : Str) (ps : List Str) (sp : Sp) : Prop where
  ex : ∃ (f : Addr) (fd : FuncData), FnOk P w K mg base CX k f fd ps sp ∧ Binds K fd ps [] ∧ mg x = some (.ref f) ∧ PySem.W.keepIn K (.ref f) = true
section
variable {X : Cx} {CX : CXT} {k j : Nat} {x : Str} {ps : List Str} {sp : Sp} {E : XK} {p pos : Pos} {e : Expr} {es : List Expr} {t : TA}
theorem pe_fnc (F : Fnc X.prog X.w X.K X.mg X.base CX k x ps sp) (hr : Room j X.A) (hk : k ≤ j) (hg : Gl X x) (hx : Passes CX X E) (ha : PA X (e :: es) t) (hdb : (x == ("__debug__" : Str)) = false := by decide)
    (he : starEach (e :: es) X.env = (false, eval e X.env) :: starEach es X.env := by rfl) (hpl : (backTo pos (starEach es X.env)).any (·.1) = false := by rfl) : PE X (.Call (.Name x p) (e :: es) [] pos) (tCall sp [] E t) := by
  obtain ⟨f, fd, G, hb, hm, hkp⟩ := F.ex
  exact pe_call G (hr.mono hk) hg hm hkp hb .nil hx ha hdb he hpl
end
/-- built-in names that are left alone -/
structure Free (mg : Str → Option Value) : Prop where
  isinstance : mg "isinstance" = none
  str : mg "str" = none
  tuple : mg "tuple" = none
  len : mg "len" = none
  all : mg "all" = none
  set : mg "set" = none
  int : mg "int" = none
  list : mg "list" = none
  range : mg "range" = none
def rLen (K : PySem.W.Frag) : List V → Hp → VK → Prop := fun xs H Q => ∃ p ys, xs = [V.ref p] ∧ (SqL K H p ys ∨ SqT K H p ys) ∧ Q (V.int ↑ys.length) H
abbrev sAreNames : Stmt := topS 18
abbrev sAreArrays : Stmt := topS 19
theorem scAreNames : FnScope ["value", "most", "word"] ["value", "most"] (defScope sAreNames) :=
  ⟨rfl, rfl, rfl, by decide +kernel, rfl, by decide +kernel, by decide +kernel⟩
theorem scAreArrays : FnScope ["value", "pair"] ["value"] (defScope sAreArrays) :=
  ⟨rfl, rfl, rfl, by decide +kernel, rfl, by decide +kernel, by decide +kernel⟩
def spNames : Sp := fun vs H Q _ => ∃ (v : V) (d : PyData) (n : Nat), vs = [v, .int n] ∧ Shw H v d ∧ gd d = true ∧ ∀ H', Same H H' → Q (.bl (areNm n d)) H'
def spArrays : Sp := fun vs H Q _ => ∃ (v : V) (d : PyData), vs = [v] ∧ Shw H v d ∧ gd d = true ∧ ∀ H', Same H H' → Q (.bl (areArr d)) H'
section
variable {P : Program} {w : World} {K : PySem.W.Frag} {mg : Str → Option Value} {base : Heap}
def isTup : PyData → Bool
  | .tuple _ => true
  | _ => false
theorem kit_tup (d : PyData) : kitB (tyD d) "tuple" = some (isTup d) := by
  have a : (["NoneType", "bool", "int", "str", "list", "dict"].all fun t => kitB t "tuple" == some false) = true := by decide +kernel
  have b := fun t h => beq_iff_eq.mp (List.all_eq_true.mp a t h)
  cases d with
  | tuple ds => show kitB "tuple" "tuple" = some true; decide +kernel
  | none => exact b "NoneType" (by simp)
  | bool _ => exact b "bool" (by simp)
  | int _ => exact b "int" (by simp)
  | str _ => exact b "str" (by simp)
  | list _ => exact b "list" (by simp)
  | dict _ => exact b "dict" (by simp)
theorem not_tup {t : String} (h : t ∈ ["NoneType", "bool", "int", "str", "list", "dict"]) : kitB t "tuple" = some false := by
  have a : (["NoneType", "bool", "int", "str", "list", "dict"].all fun t => kitB t "tuple" == some false) = true := by decide +kernel
  exact beq_iff_eq.mp (List.all_eq_true.mp a t h)
theorem ok_names {f : Addr} {fd : FuncData} (F : Fun K "are_names" "are_names" sAreNames f fd) (N : Fnc P w K mg base CX0 1 "is_name" ["value"] (spName K)) (B : Free mg) :
    FnOk P w K mg base CX0 2 f fd ["value", "most"] spNames := by
  refine F.ok scAreNames (fun vs H Q E h => ?_) (fun cdv A outer s H vs Q E hr h => ?_)
  · obtain ⟨v, d, n, rfl, _⟩ := h
    rfl
  · obtain ⟨v, d, n, rfl, sh, g, q⟩ := h
    refine ⟨_, pss_one (ps_ret (pe_and (pe_callB call_isi (by rfl) B.isinstance (by decide +kernel) (pa_cons (pv 0) (pa_cons (pe_bltn (v := .ty "tuple") (by rfl) B.tuple (by decide +kernel) rfl) pa_nil)))
      (pe_and (pe_cmpR op_le (pe_callB call_len_seq (by rfl) B.len PySem.boot_len (pa_cons (pv 0) pa_nil)) (pv 1) (nomark _))
      (pe_one (pe_callB (cr_all rfl) (by rfl) B.all (by decide +kernel) (pa_cons (pe_lc (own := [("word", 2)]) (g := gName 2) (tt := tYes) rfl scAreNames.nd (pi_tup (pv 0)) (blkOk_by (N := ["value", "most", "word"]) (sc := defScope sAreNames) (by decide +kernel))
          (fun _ _ _ _ _ => pg_name (i := 2) scAreNames.nd rfl (Or.inl rfl)) (fun _ _ _ _ _ => pts_nil) (fun _ _ _ _ _ => pe_fnc N hr (by omega) (by rfl) pass0 (pa_cons (pv 2) pa_nil))) pa_nil)))))), ?_⟩
    refine ⟨v, rfl, v, .ty "tuple", _, _, isTup d, rfl, .ty _, shw_ty sh, kit_ty (kit_tup d), isTup d, rfl, ?_⟩
    cases sh with
    | non => exact q H (Same.refl H)
    | bl b => exact q H (Same.refl H)
    | int i => exact q H (Same.refl H)
    | str x => exact q H (Same.refl H)
    | lst e _ => exact q H (Same.refl H)
    | dct e => exact q H (Same.refl H)
    | @tup a xs ds e ha =>
      have ln := ShwAll.len ha
      simp only [gd, Bool.and_eq_true, decide_eq_true_eq] at g
      refine ⟨.ref a, rfl, a, xs, rfl, .inr (SqT.of e), .int n, rfl, _, _, rfl, rfl, _, rfl, ite2 (fun e1 => ?_) (fun e1 => ?_)⟩
      · have h1 : xs.length ≤ n := by
          have := of_decide_eq_true e1
          omega
        refine ⟨.ref a, rfl, a, rfl, ⟨_, SqT.of e⟩, fun D nD => ?_⟩
        refine lc_tupD (K := K) (fun d => .bl (isNm d)) e nD (by omega) ha (fun x d H' Q' hx hd shx s1 k => ⟨rfl, x, rfl, x, isNm d, rfl, shw_name shx (gdAll_mem g.2 hd), fun H4 s4 => k H4 s4⟩) (fun H' s1 d1 => ?_)
        refine ⟨D, ds.map isNm, rfl, SqL.of (by rw [d1, List.map_map]; rfl), ?_⟩
        have en : areNm n (.tuple ds) = (ds.map isNm).all id := by
          show (decide (ds.length ≤ n) && ds.all isNm) = _
          rw [decide_eq_true (by omega), Bool.true_and, List.all_map]
          rfl
        have z := q H' s1
        rw [en] at z
        exact z
      · have h1 : ¬ xs.length ≤ n := fun z => e1 (decide_eq_true (by omega))
        have en : areNm n (.tuple ds) = false := by
          show (decide (ds.length ≤ n) && ds.all isNm) = _
          rw [decide_eq_false (by omega), Bool.false_and]
        have z := q H (Same.refl H)
        rw [en] at z
        exact z
theorem ok_arrays {f : Addr} {fd : FuncData} {tk : Tok} (F : Fun K "are_arrays" "are_arrays" sAreArrays f fd) (N : Fnc P w K mg base CX0 2 "are_names" ["value", "most"] spNames) (B : Free mg) (gA : mg "MAX_ARRAYS" = some (.int 12 tk)) :
    FnOk P w K mg base CX0 3 f fd ["value"] spArrays := by
  refine F.ok scAreArrays (fun vs H Q E h => ?_) (fun cdv A outer s H vs Q E hr h => ?_)
  · obtain ⟨v, d, rfl, _⟩ := h
    rfl
  · obtain ⟨v, d, rfl, sh, g, q⟩ := h
    refine ⟨_, pss_cons (ps_if (PW.pt (pw_or (pt_not (pt_val (pe_callB call_isi (by rfl) B.isinstance (by decide +kernel) (pa_cons (pv 0) (pa_cons (pe_bltn (v := .ty "tuple") (by rfl) B.tuple (by decide +kernel) rfl) pa_nil)))))
          (pw_or1 (pt_cmpR op_gt (pe_callB call_len_seq (by rfl) B.len PySem.boot_len (pa_cons (pv 0) pa_nil)) (pe_glob (v := .int 12) (by rfl) gA ⟨_, rfl⟩) (nomark _)))))
        (pss_one (ps_ret pe_bl)) pss_nil)
      (pss_one (ps_ret (pe_callB (cr_all rfl) (by rfl) B.all (by decide +kernel) (pa_cons (pe_lc (own := [("pair", 1)]) (g := gName 1) (tt := tYes) rfl scAreArrays.nd (pi_tup (pv 0)) (blkOk_by (N := ["value", "pair"]) (sc := defScope sAreArrays) (by decide +kernel))
          (fun _ _ _ _ _ => pg_name (i := 1) scAreArrays.nd rfl (Or.inl rfl)) (fun _ _ _ _ _ => pts_nil)
          (fun _ _ _ _ _ => pe_and (pe_fnc N hr (by omega) (by rfl) pass0 (pa_cons (pv 1) (pa_cons pe_int pa_nil))) (pe_one (pe_cmpR op_eq (pe_callB (r := rLen K) call_len_seq (by rfl) B.len PySem.boot_len (pa_cons (pv 1) pa_nil)) pe_int (nomark _))))) pa_nil)))), ?_⟩
    refine ⟨v, rfl, v, .ty "tuple", _, _, isTup d, rfl, .ty _, shw_ty sh, kit_ty (kit_tup d), isTup d, rfl, ?_⟩
    cases sh with
    | non => exact q H (Same.refl H)
    | bl b => exact q H (Same.refl H)
    | int i => exact q H (Same.refl H)
    | str x => exact q H (Same.refl H)
    | lst e _ => exact q H (Same.refl H)
    | dct e => exact q H (Same.refl H)
    | @tup a xs ds e ha =>
      have ln := ShwAll.len ha
      simp only [gd, Bool.and_eq_true, decide_eq_true_eq] at g
      refine ⟨.ref a, rfl, a, xs, rfl, .inr (SqT.of e), _, _, rfl, rfl, _, rfl, ite2 (fun e1 => ?_) (fun e1 => ?_)⟩
      · have h1 : 12 < xs.length := by
          have := of_decide_eq_true e1
          omega
        have en : areArr (.tuple ds) = false := by
          show (decide (ds.length ≤ 12) && ds.all isPr) = _
          rw [decide_eq_false (by omega), Bool.false_and]
        have z := q H (Same.refl H)
        rw [en] at z
        exact z
      · have h1 : xs.length ≤ 12 := by
          have : ¬ ((xs.length : Int) > 12) := fun z => e1 (decide_eq_true z)
          omega
        refine ⟨.ref a, rfl, a, rfl, ⟨_, SqT.of e⟩, fun D nD => ?_⟩
        refine lc_tupD (K := K) (fun d => .bl (isPr d)) e nD (by omega) ha (fun x d H' Q' hx hd shx s1 k => ⟨rfl, x, rfl, x, d, 2, rfl, shx, gdAll_mem g.2 hd, fun H4 s4 => ⟨_, rfl, ?_⟩⟩) (fun H' s1 d1 => ?_)
        · refine ite2 (fun e2 => ?_) (fun e2 => ?_)
          · cases Shw.same shx s4 with
            | @tup a2 ys es e3 ha2 =>
              have l2 := ShwAll.len ha2
              refine ⟨_, rfl, a2, ys, rfl, .inr (SqT.of e3), rfl, ?_⟩
              have en : isPr (.tuple es) = decide (V.int (ys.length : Int) = V.int 2) := by
                show (areNm 2 (.tuple es) && decide (es.length = 2)) = _
                rw [e2, Bool.true_and, ← l2]
                refine decide_eq_decide.mpr ⟨fun z => by rw [z]; rfl, fun z => ?_⟩
                have := V.int.inj z
                omega
              have z := k H4 s4
              simp only [en] at z
              exact z
            | non => cases e2
            | bl b => cases e2
            | int i => cases e2
            | str x => cases e2
            | lst e _ => cases e2
            | dct e => cases e2
          · have en : isPr d = false := by
              unfold isPr
              rw [Bool.eq_false_iff.mpr e2, Bool.false_and]
            have z := k H4 s4
            simp only [en] at z
            exact z
        · refine ⟨D, ds.map isPr, rfl, SqL.of (by rw [d1, List.map_map]; rfl), ?_⟩
          have en : areArr (.tuple ds) = (ds.map isPr).all id := by
            show (decide (ds.length ≤ 12) && ds.all isPr) = _
            rw [decide_eq_true (by omega), Bool.true_and, List.all_map]
            rfl
          have z := q H' s1
          rw [en] at z
          exact z
end
end K03

set_option autoImplicit false
set_option maxRecDepth 100000
set_option maxHeartbeats 4000000
namespace K03
open PySem PySem.Spec PyProof.Rows L2 KX
/-- a pair of texts -/
def prD (p : Str × Str) : PyData := .tuple [.str p.1, .str p.2]
/-- texts, each once -/
def onceS (zs : List Str) : List Str := zs.foldl (fun acc z => if z ∈ acc then acc else acc ++ [z]) []
theorem onceS_snoc (zs : List Str) (z : Str) : onceS (zs ++ [z]) = if z ∈ onceS zs then onceS zs else onceS zs ++ [z] := by
  unfold onceS
  rw [List.foldl_append]
  rfl
theorem onceS_le (zs : List Str) : (onceS zs).length ≤ zs.length := by
  have go : ∀ (l acc : List Str), (l.foldl (fun acc k => if k ∈ acc then acc else acc ++ [k]) acc).length ≤ acc.length + l.length := fun l => by
    induction l with
    | nil => exact fun acc => Nat.le_refl _
    | cons k l ih =>
      intro acc
      have y := ih (if k ∈ acc then acc else acc ++ [k])
      rw [List.foldl_cons, List.length_cons]
      by_cases m : k ∈ acc
      · rw [if_pos m] at y ⊢
        omega
      · rw [if_neg m] at y ⊢
        rw [List.length_append, List.length_singleton] at y
        omega
  have y := go zs []
  rw [List.length_nil, Nat.zero_add] at y
  exact y
/-- the dict of these keys, all with one value -/
def keysK (v : V) (zs : List Str) : List (Key × V) := zs.map fun z => ((.inr z : Key), v)
theorem put_keysK (v : V) (zs : List Str) (z : Str) : putK (keysK v zs) (.inr z) v = keysK v (if z ∈ zs then zs else zs ++ [z]) := by
  unfold putK keysK
  by_cases m : z ∈ zs
  · have a : ((zs.map fun z => ((.inr z : Key), v)).any fun kv => decide (kv.1 = .inr z)) = true := List.any_eq_true.mpr ⟨_, List.mem_map.mpr ⟨z, m, rfl⟩, by simp⟩
    rw [if_pos a, if_pos m, List.map_map]
    refine List.map_congr_left fun y _ => ?_
    show (if (.inr y : Key) = .inr z then ((.inr y : Key), v) else ((.inr y : Key), v)) = _
    split <;> rfl
  · have a : ¬ ((zs.map fun z => ((.inr z : Key), v)).any fun kv => decide (kv.1 = .inr z)) = true := fun h => by
      obtain ⟨kv, h1, h2⟩ := List.any_eq_true.mp h
      obtain ⟨y, hy, rfl⟩ := List.mem_map.mp h1
      have e : (.inr y : Key) = .inr z := of_decide_eq_true h2
      exact m (Sum.inr.inj e ▸ hy)
    rw [if_neg a, if_neg m, List.map_append]
    rfl
abbrev sLengthsIn : Stmt := topS 20
theorem scLengthsIn : FnScope ["arrays", "array", "length"] ["arrays"] (defScope sLengthsIn) :=
  ⟨rfl, rfl, rfl, by decide +kernel, rfl, by decide +kernel, by decide +kernel⟩
/-- arrays: pairs of texts -/
def Arr (H : Hp) (v : V) (ps : List (Str × Str)) : Prop := Shw H v (.tuple (ps.map prD))
def lensOf (ps : List (Str × Str)) : List Str := onceS (ps.map (·.2))
def spLens : Sp := fun vs H Q _ => ∃ (v : V) (ps : List (Str × Str)), vs = [v] ∧ Arr H v ps ∧ ps.length ≤ 1000 ∧ ∀ (t : Addr) (H' : Hp), Same H H' → H' t = some (.tup ((lensOf ps).map V.str)) → Q (.ref t) H'
theorem pair_get {H : Hp} {x : V} {p : Str × Str} (s : Shw H x (prD p)) : ∃ b : Addr, x = .ref b ∧ H b = some (.tup [.str p.1, .str p.2]) := by
  cases s with
  | @tup b xs _ e ha =>
    cases ha with
    | cons h1 h2 =>
      cases h1
      cases h2 with
      | cons h3 h4 =>
        cases h3
        cases h4
        exact ⟨b, rfl, e⟩
theorem arr_get {H : Hp} {v : V} {ps : List (Str × Str)} (s : Arr H v ps) : ∃ (a : Addr) (xs : List V), v = .ref a ∧ H a = some (.tup xs) ∧ xs.length = ps.length ∧ ∀ (i : Nat) (x : V), xs[i]? = some x → ∃ (p : Str × Str) (b : Addr), ps[i]? = some p ∧ x = .ref b ∧ H b = some (.tup [.str p.1, .str p.2]) := by
  cases s with
  | @tup a xs _ e ha =>
    refine ⟨a, xs, rfl, e, by have := ShwAll.len ha; rw [List.length_map] at this; exact this, fun i x hx => ?_⟩
    obtain ⟨d, h1, h2⟩ := ShwAll.get ha hx
    rw [List.getElem?_map] at h1
    obtain ⟨p, h3, rfl⟩ := Option.map_eq_some_iff.mp h1
    obtain ⟨b, e1, e2⟩ := pair_get h2
    exact ⟨p, b, h3, e1, e2⟩
section
variable {P : Program} {w : World} {K : PySem.W.Frag} {mg : Str → Option Value} {base : Heap}
theorem ok_lens {f : Addr} {fd : FuncData} (F : Fun K "lengths_in" "lengths_in" sLengthsIn f fd) (B : Free mg) : FnOk P w K mg base CX0 1 f fd ["arrays"] spLens := by
  refine F.ok scLengthsIn (fun vs H Q E h => ?_) (fun cdv A outer s H vs Q E hr h => ?_)
  · obtain ⟨v, ps, rfl, _⟩ := h
    rfl
  · obtain ⟨v, ps, rfl, sh, few, q⟩ := h
    refine ⟨_, pss_one (ps_ret (pe_callTy (call_tuple_dK rfl) (by rfl) B.tuple (by decide +kernel) (pa_cons (pe_dc (own := [("array", 1), ("length", 2)]) (g := gTup K 2 (gCons (gName 1) (gCons (gName 2) gNil))) (tt := tYes) rfl scLengthsIn.nd (pi_tup (pv 0)) (blkOk_by (N := ["arrays", "array", "length"]) (sc := defScope sLengthsIn) (by decide +kernel))
        (fun _ _ _ _ _ => pg_tup rfl (pgs_cons (pg_name (i := 1) scLengthsIn.nd rfl (Or.inl rfl) (Or.inr rfl)) (pgs_cons (pg_name (i := 2) scLengthsIn.nd rfl (Or.inl rfl) (Or.inr rfl)) pgs_nil))) (fun _ _ _ _ _ => pts_nil)
        (fun _ _ _ _ _ => pv 2) (fun _ _ _ _ _ => pe_bl)) pa_nil))), ?_⟩
    obtain ⟨a, xs, rfl, e, ln, at_⟩ := arr_get sh
    refine ⟨.ref a, rfl, a, rfl, ⟨_, SqT.of e⟩, fun D nD => ?_⟩
    refine dc_tup (K := K) (a := a) (xs := xs) (fun m H' => Same H H' ∧ H' D = some (.dK (keysK (.bl true) (onceS ((ps.take m).map (·.2)))))) ⟨same_upd nD, upd_same⟩ (fun m H' _ hP => SqT.of (hP.1 _ _ e)) (fun m x H' hm hP => ?_) (fun H' hP => ?_)
    · obtain ⟨s1, d1⟩ := hP
      obtain ⟨p, b, hp, rfl, e2⟩ := at_ m x hm
      have len1 : (keysK (.bl true) (onceS ((ps.take m).map (·.2)))).length < sizeLine := by
        unfold keysK
        rw [List.length_map, sizeLine_eq]
        have := onceS_le ((ps.take m).map (·.2))
        rw [List.length_map, List.length_take] at this
        omega
      refine ⟨b, _, rfl, SqT.of (s1 _ _ e2), rfl, _, _, rfl, _, _, rfl, rfl, rfl, _, rfl, _, .inr p.2, rfl, d1, len1, fun c o z => ?_, ?_⟩
      · rw [upd_ne (ne_of_none z nD)]
        exact s1 _ _ z
      · rw [upd_same, put_keysK, List.take_add_one, hp, List.map_append]
        show _ = some (HO.dK (keysK (.bl true) (onceS ((ps.take m).map (·.2) ++ [p.2]))))
        rw [onceS_snoc]
    · obtain ⟨s1, d1⟩ := hP
      rw [ln, List.take_length] at d1
      refine ⟨D, _, rfl, d1, fun t nt => q t _ (s1.trans (same_upd nt)) ?_⟩
      rw [upd_same]
      unfold keysK lensOf
      rw [List.map_map]
      rfl
end
end K03

set_option autoImplicit false
set_option maxRecDepth 100000
set_option maxHeartbeats 4000000
namespace K03
open PySem PySem.Spec PyProof.Rows L2 KX
abbrev sWordsIn : Stmt := topS 21
theorem scWordsIn : FnScope ["arrays", "positions", "values", "array", "length"] ["arrays", "positions", "values"] (defScope sWordsIn) :=
  ⟨rfl, rfl, rfl, by decide +kernel, rfl, by decide +kernel, by decide +kernel⟩
/-- a tuple of texts -/
def Txts (H : Hp) (v : V) (zs : List Str) : Prop := ∃ a : Addr, v = .ref a ∧ H a = some (.tup (zs.map V.str))
theorem Txts.same {H H' : Hp} {v : V} {zs : List Str} (t : Txts H v zs) (s : Same H H') : Txts H' v zs := t.imp fun a h => ⟨h.1, s _ _ h.2⟩
def wordsOf (ps : List (Str × Str)) (qs rs : List Str) : List Str := ps.map (·.1) ++ (lensOf ps ++ (qs ++ rs))
def spWords : Sp := fun vs H Q _ => ∃ (v1 v2 v3 : V) (ps : List (Str × Str)) (qs rs : List Str), vs = [v1, v2, v3] ∧ Arr H v1 ps ∧ Txts H v2 qs ∧ Txts H v3 rs ∧ ps.length ≤ 300 ∧ qs.length ≤ 300 ∧ rs.length ≤ 300 ∧
  ∀ (t : Addr) (H' : Hp), Same H H' → H' t = some (.tup ((wordsOf ps qs rs).map V.str)) → Q (.ref t) H'
theorem lensOf_le (ps : List (Str × Str)) : (lensOf ps).length ≤ ps.length := by
  have := onceS_le (ps.map (·.2))
  rw [List.length_map] at this
  exact this
section
variable {P : Program} {w : World} {K : PySem.W.Frag} {mg : Str → Option Value} {base : Heap}
theorem ok_words {f : Addr} {fd : FuncData} (F : Fun K "words_in" "words_in" sWordsIn f fd) (L : Fnc P w K mg base CX0 1 "lengths_in" ["arrays"] spLens) (B : Free mg) :
    FnOk P w K mg base CX0 2 f fd ["arrays", "positions", "values"] spWords := by
  refine F.ok scWordsIn (fun vs H Q E h => ?_) (fun cdv A outer s H vs Q E hr h => ?_)
  · obtain ⟨v1, v2, v3, ps, qs, rs, rfl, _⟩ := h
    rfl
  · obtain ⟨v1, v2, v3, ps, qs, rs, rfl, sh, t2, t3, few1, few2, few3, q⟩ := h
    refine ⟨_, pss_one (ps_ret (pe_tup (StX.pa_star (pe_lc (own := [("array", 3), ("length", 4)]) (g := gTup K 2 (gCons (gName 3) (gCons (gName 4) gNil))) (tt := tYes) rfl scWordsIn.nd (pi_tup (pv 0)) (blkOk_by (N := ["arrays", "positions", "values", "array", "length"]) (sc := defScope sWordsIn) (by decide +kernel))
        (fun _ _ _ _ _ => pg_tup rfl (pgs_cons (pg_name (i := 3) scWordsIn.nd rfl (Or.inl rfl) (Or.inr rfl)) (pgs_cons (pg_name (i := 4) scWordsIn.nd rfl (Or.inl rfl) (Or.inr rfl)) pgs_nil))) (fun _ _ _ _ _ => pts_nil) (fun _ _ _ _ _ => pv 3))
      (StX.pa_star (pe_fnc L hr (by omega) (by rfl) pass0 (pa_cons (pv 0) pa_nil)) (StX.pa_star (pv 1) (StX.pa_star (pv 2) pa_nil)))))), ?_⟩
    obtain ⟨a, xs, rfl, e, ln, at_⟩ := arr_get sh
    obtain ⟨a2, rfl, e2⟩ := t2
    obtain ⟨a3, rfl, e3⟩ := t3
    refine ⟨.ref a, rfl, a, rfl, ⟨_, SqT.of e⟩, fun D nD => ?_⟩
    refine lc_tup (K := K) (a := a) (xs := xs) (fun m H' => Same H H' ∧ H' D = some (.lst ((ps.take m).map fun p => V.str p.1))) ⟨same_upd nD, upd_same⟩ (fun m H' _ hP => SqT.of (hP.1 _ _ e)) (fun m x H' hm hP => ?_) (fun H' hP => ?_)
    · obtain ⟨s1, d1⟩ := hP
      obtain ⟨p, b, hp, rfl, eb⟩ := at_ m x hm
      refine ⟨b, _, rfl, SqT.of (s1 _ _ eb), rfl, _, _, rfl, _, _, rfl, rfl, rfl, _, rfl, _, d1, ?_, fun c o z => ?_, ?_⟩
      · rw [List.length_map, List.length_take, sizeLine_eq]
        omega
      · rw [upd_ne (ne_of_none z nD)]
        exact s1 _ _ z
      · rw [upd_same, List.take_add_one, hp, List.map_append]
        rfl
    · obtain ⟨s1, d1⟩ := hP
      rw [ln, List.take_length] at d1
      refine ⟨D, _, rfl, .inr (SqL.of d1), .ref a, rfl, .ref a, ps, rfl, Shw.same sh s1, by omega, fun t H2 s2 e4 => ⟨t, _, rfl, .inl (SqT.of e4), .ref a2, rfl, a2, _, rfl, .inl (SqT.of (s2 _ _ (s1 _ _ e2))), .ref a3, rfl, a3, _, rfl, .inl (SqT.of (s2 _ _ (s1 _ _ e3))), ?_, fun r nr => ?_⟩⟩
      · have l1 := lensOf_le ps
        simp only [List.length_append, List.length_map, List.length_nil, sizeLine_eq]
        omega
      · refine q r _ ((s1.trans s2).trans (same_upd nr)) ?_
        rw [upd_same]
        unfold wordsOf
        simp [List.map_append, List.map_map, Function.comp_def]
end
end K03

set_option autoImplicit false
set_option maxRecDepth 100000
set_option maxHeartbeats 4000000
namespace K03
open PySem PySem.Spec PyProof.Rows L2 KX
def txtD : PyData → Str
  | .str z => z
  | _ => ""
def itemsD : PyData → List PyData
  | .tuple ds => ds
  | _ => []
def strsD (d : PyData) : List Str := (itemsD d).map txtD
def pairD (d : PyData) : Str × Str := ((strsD d).getD 0 "", (strsD d).getD 1 "")
def prsD (d : PyData) : List (Str × Str) := (itemsD d).map pairD
theorem isNm_str {d : PyData} (h : isNm d = true) : d = .str (txtD d) := by
  cases d with
  | str z => rfl
  | _ => cases h
theorem names_are {n : Nat} {d : PyData} (h : areNm n d = true) : d = .tuple ((strsD d).map PyData.str) ∧ (strsD d).length ≤ n := by
  cases d with
  | tuple ds =>
    have h' : (decide (ds.length ≤ n) && ds.all isNm) = true := h
    rw [Bool.and_eq_true, decide_eq_true_eq] at h'
    refine ⟨?_, by show (ds.map txtD).length ≤ n; rw [List.length_map]; exact h'.1⟩
    show PyData.tuple ds = .tuple ((ds.map txtD).map PyData.str)
    rw [List.map_map]
    congr 1
    refine (List.map_id ds).symm.trans (List.map_congr_left fun y hy => ?_)
    exact isNm_str (List.all_eq_true.mp h'.2 y hy)
  | _ => cases h
theorem pair_is {d : PyData} (h : isPr d = true) : d = prD (pairD d) := by
  unfold isPr at h
  rw [Bool.and_eq_true, decide_eq_true_eq] at h
  obtain ⟨e, l⟩ := names_are h.1
  have l2 : (strsD d).length = 2 := by
    rw [e] at h
    have := h.2
    simpa [lenD] using this
  unfold prD pairD
  match hs : strsD d, l2 with
  | [y, z], _ =>
    rw [hs] at e
    exact e
theorem arrays_are {d : PyData} (h : areArr d = true) : d = .tuple ((prsD d).map prD) ∧ (prsD d).length ≤ 12 := by
  cases d with
  | tuple ds =>
    have h' : (decide (ds.length ≤ 12) && ds.all isPr) = true := h
    rw [Bool.and_eq_true, decide_eq_true_eq] at h'
    refine ⟨?_, by show (ds.map pairD).length ≤ 12; rw [List.length_map]; exact h'.1⟩
    show PyData.tuple ds = .tuple ((ds.map pairD).map prD)
    rw [List.map_map]
    congr 1
    refine (List.map_id ds).symm.trans (List.map_congr_left fun y hy => ?_)
    exact pair_is (List.all_eq_true.mp h'.2 y hy)
  | _ => cases h
def nodupW (ws : List Str) : Bool := decide (((onceS ws).length : Int) = (ws.length : Int))
def wordsD (d1 d2 d3 : PyData) : List Str := wordsOf (prsD d1) (strsD d2) (strsD d3)
def isFrame (d1 d2 d3 : PyData) : Bool := areArr d1 && (areNm 6 d2 && (areNm 6 d3 && nodupW (wordsD d1 d2 d3)))
theorem txts_of {H : Hp} {v : V} {zs : List Str} (s : Shw H v (.tuple (zs.map PyData.str))) : Txts H v zs := by
  cases s with
  | @tup a xs _ e ha =>
    refine ⟨a, rfl, ?_⟩
    have : ∀ (zs : List Str) (xs : List V), ShwAll H xs (zs.map PyData.str) → xs = zs.map V.str := fun zs => by
      induction zs with
      | nil =>
        intro xs h
        cases h
        rfl
      | cons z zs ih =>
        intro xs h
        cases h with
        | cons h1 h2 =>
          cases h1
          rw [List.map_cons, ih _ h2]
    rw [e, this zs xs ha]
abbrev sFrameOf : Stmt := topS 22
theorem scFrameOf : FnScope ["arrays", "positions", "values", "words"] ["arrays", "positions", "values"] (defScope sFrameOf) :=
  ⟨rfl, rfl, rfl, by decide +kernel, rfl, by decide +kernel, by decide +kernel⟩
def spFrameOf : Sp := fun vs H Q _ => ∃ (v1 v2 v3 : V) (d1 d2 d3 : PyData), vs = [v1, v2, v3] ∧ Shw H v1 d1 ∧ Shw H v2 d2 ∧ Shw H v3 d3 ∧ gd d1 = true ∧ gd d2 = true ∧ gd d3 = true ∧ ∀ H', Same H H' → Q (.bl (isFrame d1 d2 d3)) H'
section
variable {P : Program} {w : World} {K : PySem.W.Frag} {mg : Str → Option Value} {base : Heap}
theorem ok_frameOf {f : Addr} {fd : FuncData} {tp tv : Tok} (F : Fun K "is_frame_of" "is_frame_of" sFrameOf f fd) (A1 : Fnc P w K mg base CX0 3 "are_arrays" ["value"] spArrays) (A2 : Fnc P w K mg base CX0 2 "are_names" ["value", "most"] spNames)
    (A3 : Fnc P w K mg base CX0 2 "words_in" ["arrays", "positions", "values"] spWords) (B : Free mg) (gP : mg "MAX_POSITIONS" = some (.int 6 tp)) (gV : mg "MAX_VALUES" = some (.int 6 tv)) :
    FnOk P w K mg base CX0 4 f fd ["arrays", "positions", "values"] spFrameOf := by
  refine F.ok scFrameOf (fun vs H Q E h => ?_) (fun cdv A outer s H vs Q E hr h => ?_)
  · obtain ⟨v1, v2, v3, d1, d2, d3, rfl, _⟩ := h
    rfl
  · obtain ⟨v1, v2, v3, d1, d2, d3, rfl, s1, s2, s3, g1, g2, g3, q⟩ := h
    refine ⟨_, pss_cons (ps_if (PW.pt (pw_or (pt_not (pt_val (pe_fnc A1 hr (by omega) (by rfl) pass0 (pa_cons (pv 0) pa_nil))))
          (pw_or (pt_not (pt_val (pe_fnc A2 hr (by omega) (by rfl) pass0 (pa_cons (pv 1) (pa_cons (pe_glob (v := .int 6) (by rfl) gP ⟨_, rfl⟩) pa_nil)))))
          (pw_or1 (pt_not (pt_val (pe_fnc A2 hr (by omega) (by rfl) pass0 (pa_cons (pv 2) (pa_cons (pe_glob (v := .int 6) (by rfl) gV ⟨_, rfl⟩) pa_nil)))))))))
        (pss_one (ps_ret pe_bl)) pss_nil)
      (pss_cons (ps_set (i := 3) scFrameOf.nd rfl (.inl rfl) (pe_fnc A3 hr (by omega) (by rfl) pass0 (pa_cons (pv 0) (pa_cons (pv 1) (pa_cons (pv 2) pa_nil)))))
      (pss_one (ps_ret (pe_cmpR op_eq (pe_lenWords (by rfl) B.len (by rfl) B.set (pv 3)) (pe_callB call_len_seq (by rfl) B.len PySem.boot_len (pa_cons (pv 3) pa_nil)) (nomark _))))), ?_⟩
    refine ⟨v1, rfl, v1, d1, rfl, s1, g1, fun H1 w1 => ⟨_, rfl, ?_⟩⟩
    cases e1 : areArr d1 with
    | false =>
      have en : isFrame d1 d2 d3 = false := by
        unfold isFrame
        rw [e1, Bool.false_and]
      have z := q H1 w1
      rw [en] at z
      exact z
    | true =>
      refine ⟨v2, rfl, v2, d2, 6, rfl, Shw.same s2 w1, g2, fun H2 w2 => ⟨_, rfl, ?_⟩⟩
      cases e2 : areNm 6 d2 with
      | false =>
        have en : isFrame d1 d2 d3 = false := by
          unfold isFrame
          rw [e1, e2, Bool.false_and, Bool.and_false]
        have z := q H2 (w1.trans w2)
        rw [en] at z
        exact z
      | true =>
        refine ⟨v3, rfl, v3, d3, 6, rfl, Shw.same s3 (w1.trans w2), g3, fun H3 w3 => ⟨_, rfl, ?_⟩⟩
        have w123 := (w1.trans w2).trans w3
        cases e3 : areNm 6 d3 with
        | false =>
          have en : isFrame d1 d2 d3 = false := by
            unfold isFrame
            rw [e1, e2, e3, Bool.false_and, Bool.and_false, Bool.and_false]
          have z := q H3 w123
          rw [en] at z
          exact z
        | true =>
          obtain ⟨x1, l1⟩ := arrays_are e1
          obtain ⟨x2, l2⟩ := names_are e2
          obtain ⟨x3, l3⟩ := names_are e3
          have y1 : Arr H3 v1 (prsD d1) := by
            have y := Shw.same s1 w123
            rw [x1] at y
            exact y
          have y2 : Txts H3 v2 (strsD d2) := txts_of (by rw [← x2]; exact Shw.same s2 w123)
          have y3 : Txts H3 v3 (strsD d3) := txts_of (by rw [← x3]; exact Shw.same s3 w123)
          refine ⟨v1, rfl, v2, rfl, v3, rfl, v1, v2, v3, prsD d1, strsD d2, strsD d3, rfl, y1, y2, y3, by omega, by omega, by omega, fun t H4 w4 e4 => ?_⟩
          have few : (wordsOf (prsD d1) (strsD d2) (strsD d3)).length ≤ 100 := by
            have l4 := lensOf_le (prsD d1)
            unfold wordsOf
            simp only [List.length_append, List.length_map]
            omega
          refine ⟨_, rfl, t, _, rfl, .inr (SqT.of e4), by omega, .ref t, rfl, t, _, rfl, .inr (SqT.of e4), rfl, ?_⟩
          have en : isFrame d1 d2 d3 = decide (V.int ((once (wordsOf (prsD d1) (strsD d2) (strsD d3))).length : Nat) = V.int (((wordsOf (prsD d1) (strsD d2) (strsD d3)).map V.str).length : Nat)) := by
            unfold isFrame nodupW wordsD
            rw [e1, e2, e3, Bool.true_and, Bool.true_and, Bool.true_and, List.length_map]
            refine decide_eq_decide.mpr ⟨fun z => congrArg V.int z, fun z => V.int.inj z⟩
          have z := q H4 (w123.trans w4)
          rw [en] at z
          exact z
end
end K03

set_option autoImplicit false
set_option maxRecDepth 100000
set_option maxHeartbeats 4000000
namespace K03
open PySem PySem.Spec PyProof.Rows L2 KX
theorem onceS_full {l acc : List Str} (na : acc.Nodup) (h : (l.foldl (fun acc k => if k ∈ acc then acc else acc ++ [k]) acc).length = acc.length + l.length) : (acc ++ l).Nodup ∧ l.foldl (fun acc k => if k ∈ acc then acc else acc ++ [k]) acc = acc ++ l := by
  induction l generalizing acc with
  | nil => exact ⟨by rw [List.append_nil]; exact na, by rw [List.append_nil]; rfl⟩
  | cons k l ih =>
    have le : ∀ (l acc : List Str), (l.foldl (fun acc k => if k ∈ acc then acc else acc ++ [k]) acc).length ≤ acc.length + l.length := fun l => by
      induction l with
      | nil => exact fun acc => Nat.le_refl _
      | cons k l ih =>
        intro acc
        have y := ih (if k ∈ acc then acc else acc ++ [k])
        rw [List.foldl_cons, List.length_cons]
        by_cases m : k ∈ acc
        · rw [if_pos m] at y ⊢
          omega
        · rw [if_neg m] at y ⊢
          rw [List.length_append, List.length_singleton] at y
          omega
    rw [List.foldl_cons, List.length_cons] at h
    by_cases m : k ∈ acc
    · rw [if_pos m] at h
      have := le l acc
      omega
    · rw [if_neg m] at h
      have n2 : (acc ++ [k]).Nodup := List.nodup_append.mpr ⟨na, by simp, fun a ha b hb => by
        rw [List.mem_singleton.mp hb]
        exact fun e => m (e ▸ ha)⟩
      have y := ih n2 (by rw [h, List.length_append, List.length_singleton]; omega)
      rw [List.append_assoc] at y
      refine ⟨y.1, ?_⟩
      rw [List.foldl_cons, if_neg m]
      exact y.2
theorem nodupW_is {ws : List Str} (h : nodupW ws = true) : ws.Nodup ∧ onceS ws = ws := by
  have e := of_decide_eq_true h
  have y := onceS_full (l := ws) (acc := []) List.nodup_nil (by show (onceS ws).length = 0 + ws.length; omega)
  exact ⟨y.1, y.2⟩
theorem onceS_nodup {l : List Str} : ∀ {acc : List Str}, (acc ++ l).Nodup → l.foldl (fun acc k => if k ∈ acc then acc else acc ++ [k]) acc = acc ++ l := by
  induction l with
  | nil => exact fun _ => (List.append_nil _).symm
  | cons k l ih =>
    intro acc n
    have m : k ∉ acc := fun z => (List.nodup_append.mp n).2.2 k z k List.mem_cons_self rfl
    rw [List.foldl_cons, if_neg m, ih (by rw [List.append_assoc]; exact n), List.append_assoc]
    rfl
theorem onceS_id {l : List Str} (n : l.Nodup) : onceS l = l := onceS_nodup (acc := []) n
/-- new keys go behind -/
theorem merge_new : ∀ {more kvs : List (Key × V)}, ((kvs ++ more).map (·.1)).Nodup → mergeK kvs more = kvs ++ more
  | [], kvs, _ => (List.append_nil kvs).symm
  | kv :: more, kvs, n => by
    have m : ¬ (kvs.any fun y => decide (y.1 = kv.1)) = true := fun z => by
      obtain ⟨y, hy, e⟩ := List.any_eq_true.mp z
      rw [List.map_append, List.nodup_append] at n
      exact n.2.2 y.1 (List.mem_map.mpr ⟨y, hy, rfl⟩) kv.1 (List.mem_map.mpr ⟨kv, List.mem_cons_self, rfl⟩) (of_decide_eq_true e)
    have e : putK kvs kv.1 kv.2 = kvs ++ [kv] := by
      unfold putK
      rw [if_neg m]
    show mergeK (putK kvs kv.1 kv.2) more = _
    rw [e, merge_new (by rw [List.append_assoc]; exact n), List.append_assoc]
    rfl
/-- a dict comprehension over any walk -/
theorem dc_it {J : It} {n : Nat} {G : Hp → Prop} {Y : Nat → Hp → V → Hp → Prop} (w : Walk J n G Y) {g : TG} {tt : TT} {tk tv : TE} {vs : List Nat} {σ : L2.St} {H1 : Hp} {D : Addr} {Qd : Hp → Prop} (Pv : Nat → Hp → Prop) (h0 : Pv 0 (upd H1 D (.dK []))) (hG : ∀ i H, i ≤ n → Pv i H → G H)
    (hs : ∀ i x H H', i < n → Pv i H → Y i H x H' → g x (wipe σ vs) H' fun σ2 H2 => wipe σ2 vs = wipe σ vs ∧ tt σ2 H2 fun b H3 =>
      if b = true then tk σ2 H3 fun y H4 => tv σ2 H4 fun z H5 => ∃ kvs k, y = kV k ∧ H5 D = some (.dK kvs) ∧ kvs.length < sizeLine ∧ Pv (i + 1) (upd H5 D (.dK (putK kvs k z))) else Pv (i + 1) H3) (hd : ∀ H, Pv n H → Qd H) :
    ∃ W : Nat → Nat → Hp → Prop, (∃ m, W 0 m (upd H1 D (.dK []))) ∧ ∀ i m H, W i m H →
      (J.stop i H ∧ Qd H) ∨ (J.go i H ∧ ∃ Nx : Hp → Prop, (∀ H', Nx H' → ∃ m', m' < m ∧ W (i + 1) m' H') ∧ ∀ x H', J.yld i H x H' → g x (wipe σ vs) H' fun σ2 H2 => wipe σ2 vs = wipe σ vs ∧ tt σ2 H2 fun b H3 =>
        if b = true then tk σ2 H3 fun y H4 => tv σ2 H4 fun z H5 => ∃ kvs k, y = kV k ∧ H5 D = some (.dK kvs) ∧ kvs.length < sizeLine ∧ Nx (upd H5 D (.dK (putK kvs k z))) else Nx H3) := by
  refine ⟨fun i m H => m = n - i ∧ i ≤ n ∧ Pv i H, ⟨n, rfl, Nat.zero_le _, h0⟩, ?_⟩
  rintro i m H ⟨rfl, hi, p⟩
  rcases Nat.lt_or_ge i n with lt | ge
  · exact .inr ⟨w.goes i H lt (hG i H hi p), Pv (i + 1), fun H' p' => ⟨n - (i + 1), by omega, rfl, lt, p'⟩, fun x H' y => hs i x H H' lt p (w.yields i H x H' lt (hG i H hi p) y)⟩
  · obtain rfl : i = n := Nat.le_antisymm hi ge
    exact .inl ⟨w.stops H (hG i H hi p), hd H p⟩
/-- {word: v for word in ..}, the words told by a walk -/
theorem dc_words {J : It} {G : Hp → Prop} {Y : Nat → Hp → V → Hp → Prop} {zs : List Str} {i0 : Nat} {v : V} {vs : List Nat} {σ : L2.St} {H1 : Hp} {D : Addr} {Qd : Hp → Prop} (w : Walk J zs.length G Y) (n : H1 D = none) (few : zs.length ≤ 1000) (nd : zs.Nodup)
    (hG : ∀ H', Same H1 H' → G H') (hY : ∀ i H x H', i < zs.length → Y i H x H' → H' = H ∧ ∃ z, zs[i]? = some z ∧ x = .str z) (l0 : i0 < σ.length) (hw : wipe ((wipe σ vs).set i0 (some (.str ""))) vs = wipe σ vs)
    (hw2 : ∀ x : V, wipe ((wipe σ vs).set i0 (some x)) vs = wipe σ vs) (fin : ∀ H', Same H1 H' → H' D = some (.dK (keysK v zs)) → Qd H') :
    ∃ W : Nat → Nat → Hp → Prop, (∃ m, W 0 m (upd H1 D (.dK []))) ∧ ∀ i m H, W i m H →
      (J.stop i H ∧ Qd H) ∨ (J.go i H ∧ ∃ Nx : Hp → Prop, (∀ H', Nx H' → ∃ m', m' < m ∧ W (i + 1) m' H') ∧ ∀ x H', J.yld i H x H' → gName i0 x (wipe σ vs) H' fun σ2 H2 => wipe σ2 vs = wipe σ vs ∧ tYes σ2 H2 fun b H3 =>
        if b = true then tVar i0 σ2 H3 fun y H4 => tC v σ2 H4 fun z H5 => ∃ kvs k, y = kV k ∧ H5 D = some (.dK kvs) ∧ kvs.length < sizeLine ∧ Nx (upd H5 D (.dK (putK kvs k z))) else Nx H3) := by
  refine dc_it w (fun m H' => Same H1 H' ∧ H' D = some (.dK (keysK v (onceS (zs.take m))))) ⟨same_upd n, upd_same⟩ (fun m H' _ hP => hG H' hP.1) (fun m x H' H'' hm hP hy => ?_) (fun H' hP => ?_)
  · obtain ⟨s1, d1⟩ := hP
    obtain ⟨rfl, z, hz, rfl⟩ := hY m H' x H'' hm hy
    have short : (keysK v (onceS (zs.take m))).length < sizeLine := by
      unfold keysK
      rw [List.length_map, sizeLine_eq]
      have := onceS_le (zs.take m)
      rw [List.length_take] at this
      omega
    refine ⟨hw2 _, .str z, ?_, _, .inr z, rfl, d1, short, fun c o e => ?_, ?_⟩
    · rw [List.getElem?_set_self (by rw [wipe_length]; exact l0)]
    · rw [upd_ne (ne_of_none e n)]
      exact s1 _ _ e
    · rw [upd_same, put_keysK, List.take_add_one, hz]
      show _ = some (HO.dK (keysK v (onceS (zs.take m ++ [z]))))
      rw [onceS_snoc]
  · obtain ⟨s1, d1⟩ := hP
    rw [List.take_length, onceS_id nd] at d1
    exact fin H' s1 d1
end K03

set_option autoImplicit false
set_option maxRecDepth 100000
set_option maxHeartbeats 4000000
namespace K03
open PySem PySem.Spec PyProof.Rows L2 KX
/-- what is no instance stays -/
def Keep (H H' : Hp) : Prop := ∀ b o, H b = some o → (∀ C dx fs, o ≠ .ins C dx fs) → H' b = some o
theorem Keep.refl {H : Hp} : Keep H H := fun _ _ e _ => e
theorem Keep.trans {H H1 H2 : Hp} (a : Keep H H1) (b : Keep H1 H2) : Keep H H2 := fun c o e n => b c o (a c o e n) n
theorem Keep.same {H H1 : Hp} (a : Same H H1) : Keep H H1 := fun c o e _ => a c o e
theorem Keep.put {H : Hp} {p C : Addr} {dx : Addr} {fs : List (Str × V)} {o' : HO} (h : H p = some (.ins C dx fs)) : Keep H (upd H p o') := fun b o e n => by
  by_cases z : b = p
  · rw [z, h] at e
    cases e
    exact absurd rfl (n _ _ _)
  · rw [upd_ne z]
    exact e
section
variable {H H' : Hp}
mutual
theorem Shw.keep (g : Keep H H') : ∀ {v : V} {d : PyData}, Shw H v d → Shw H' v d
  | _, _, .non => .non
  | _, _, .bl b => .bl b
  | _, _, .int i => .int i
  | _, _, .str x => .str x
  | _, _, .lst h r => .lst (g _ _ h fun _ _ _ z => nomatch z) (ShwAll.keep g r)
  | _, _, .tup h r => .tup (g _ _ h fun _ _ _ z => nomatch z) (ShwAll.keep g r)
  | _, _, .dct h => .dct (g _ _ h fun _ _ _ z => nomatch z)
theorem ShwAll.keep (g : Keep H H') : ∀ {vs : List V} {ds : List PyData}, ShwAll H vs ds → ShwAll H' vs ds
  | _, _, .nil => .nil
  | _, _, .cons a r => .cons (Shw.keep g a) (ShwAll.keep g r)
end
end
theorem Txts.keep {H H' : Hp} {v : V} {zs : List Str} (t : Txts H v zs) (g : Keep H H') : Txts H' v zs := by
  obtain ⟨a, e, h⟩ := t
  exact ⟨a, e, g _ _ h fun _ _ _ z => nomatch z⟩
theorem putF_new {f : Str} {v : V} : ∀ {fs : List (Str × V)}, (∀ kv ∈ fs, kv.1 ≠ f) → putF f v fs = fs ++ [(f, v)]
  | [], _ => rfl
  | kv :: fs, h => by
    unfold putF
    rw [if_neg (h kv List.mem_cons_self), putF_new fun y hy => h y (List.mem_cons_of_mem _ hy)]
    rfl
theorem putF_zip {ns : List Str} {vs : List V} {f : Str} {v : V} (n : (ns.all fun k => !decide (k = f)) = true) (l : ns.length = vs.length) : putF f v (ns.zip vs) = (ns ++ [f]).zip (vs ++ [v]) := by
  rw [putF_new fun kv h => ?_, List.zip_append l]
  · rfl
  · have m := (List.of_mem_zip (show (kv.1, kv.2) ∈ ns.zip vs from h)).1
    have z := List.all_eq_true.mp n _ m
    intro e
    rw [decide_eq_true e] at z
    cases z
theorem lookup_zip {f : Str} : ∀ {ns : List Str} {vs : List V} {i : Nat}, ns.findIdx? (fun k => f == k) = some i → ns.length = vs.length → (ns.zip vs).lookup f = vs[i]?
  | [], _, _, h, _ => by cases h
  | n :: ns, v :: vs, i, h, l => by
    rw [List.findIdx?_cons] at h
    rw [List.zip_cons_cons, List.lookup_cons]
    cases e : f == n with
    | true =>
      rw [e] at h
      cases h
      rfl
    | false =>
      rw [e] at h
      obtain ⟨j, hj, rfl⟩ := Option.map_eq_some_iff.mp (show Option.map (· + 1) (ns.findIdx? fun k => f == k) = some i from h)
      exact lookup_zip hj (Nat.succ.inj l)
def lenK (ps : List (Str × Str)) : List (Key × V) := ps.map fun p => ((.inr p.1 : Key), V.str p.2)
theorem lenK_keys (ps : List (Str × Str)) : (lenK ps).map (·.1) = (ps.map (·.1)).map fun z => (.inr z : Key) := by
  unfold lenK
  rw [List.map_map, List.map_map]
  rfl
theorem keysK_keys (v : V) (zs : List Str) : (keysK v zs).map (·.1) = zs.map fun z => (.inr z : Key) := by
  unfold keysK
  rw [List.map_map]
  rfl
theorem nd_inr {zs : List Str} (n : zs.Nodup) : (zs.map fun z => (.inr z : Key)).Nodup := by
  refine List.Pairwise.map _ (fun a b h e => h (Sum.inr.inj e)) n
theorem putK_lenK {ps : List (Str × Str)} {m : Nat} {p : Str × Str} (n : (ps.map (·.1)).Nodup) (h : ps[m]? = some p) : putK (lenK (ps.take m)) (.inr p.1) (.str p.2) = lenK (ps.take (m + 1)) := by
  have e : lenK (ps.take (m + 1)) = lenK (ps.take m) ++ [((.inr p.1 : Key), V.str p.2)] := by
    unfold lenK
    rw [List.take_add_one, h, List.map_append]
    rfl
  rw [e]
  refine merge_new (more := [((.inr p.1 : Key), V.str p.2)]) ?_
  rw [← e, lenK_keys]
  refine nd_inr ?_
  rw [List.map_take]
  exact n.sublist (List.take_sublist _ _)
def kindsOf (ps : List (Str × Str)) (qs rs : List Str) : List (Key × V) := ((keysK (.str "array") (ps.map (·.1)) ++ keysK (.str "length") (lensOf ps)) ++ keysK (.str "position") qs) ++ keysK (.str "value") rs
theorem kinds_keys (ps : List (Str × Str)) (qs rs : List Str) : (kindsOf ps qs rs).map (·.1) = (wordsOf ps qs rs).map fun z => (.inr z : Key) := by
  unfold kindsOf wordsOf
  simp only [List.map_append, keysK_keys, List.append_assoc]
def frN : List Str := ["_arrays", "_positions", "_amounts", "_lengths", "_length_of", "_kinds"]
/-- a frame stands at p -/
structure FrameAt (C : Addr) (H : Hp) (p : Addr) (v1 v2 v3 : V) (ps : List (Str × Str)) (qs rs : List Str) : Prop where
  ob : ∃ (dx t d e : Addr), H p = some (.ins C dx (frN.zip [v1, v2, v3, .ref t, .ref d, .ref e])) ∧ H t = some (.tup ((lensOf ps).map V.str)) ∧ H d = some (.dK (lenK ps)) ∧ H e = some (.dK (kindsOf ps qs rs))
  ar : Arr H v1 ps
  po : Txts H v2 qs
  va : Txts H v3 rs
end K03

set_option autoImplicit false
set_option maxRecDepth 100000
set_option maxHeartbeats 4000000
namespace K03
open PySem PySem.Spec PyProof.Rows L2 KX
/-- C('m'), a class without an __init__ -/
structure MkP (K : PySem.W.Frag) (mg : Str → Option Value) (x : Str) (C : Addr) : Prop where
  ov : PySem.W.excIn K C [.type "ValueError", .type "Exception", .type "BaseException", .type "object"] "ValueError.__new__" = true
  hm : mg x = some (.ref C)
  kC : PySem.W.keepIn K (.ref C) = true
  exC : PySem.W.subIn K (.ref C) (.type "BaseException") = some true
  tyC : PySem.W.typeIn K (.ref C) = some (.type "type")
section
variable {X : Cx} {x : Str} {C : Addr} {p pos : Pos}
theorem pmk_mkP {m : Str} {j : Nat} {p2 : Pos} (M : MkP X.K X.mg x C) (hg : Gl X x) (hdb : (x == ("__debug__" : Str)) = false := by decide) :
    PMk X (.Call (.Name x p) [.Constant (.str m) j p2] [] pos) (fun _ H Q => Q (.ref C) none H) :=
  pmk_own PySem.F.excBase_ValueError M.ov M.hm M.kC (raises_own M.exC M.tyC) hg hdb
theorem pmk_mkPN {m : Str} {j : Nat} {p2 : Pos} (M : MkP X.K X.mg x C) (hg : Gl X x) (hdb : (x == ("__debug__" : Str)) = false := by decide) :
    L2N.PMk X (.Call (.Name x p) [.Constant (.str m) j p2] [] pos) (fun _ H Q => Q (.ref C) none H) :=
  L2N.pmk_own PySem.F.excBase_ValueError M.ov M.hm M.kC (raises_own M.exC M.tyC) hg hdb
end
/-- what the walk asks of class Frame -/
structure FrTxt (K : PySem.W.Frag) (mg : Str → Option Value) (C : Addr) : Prop where
  cl : Cls K C
  no : ∀ f ∈ frN, NoAttr K C f
/-- on the way: the fields so far; all but the instance as it was -/
structure Mid (H1 : Hp) (p C dx : Addr) (F : List (Str × V)) (H' : Hp) : Prop where
  own : H' p = some (.ins C dx F)
  off : ∀ b o, H1 b = some o → b ≠ p → H' b = some o
section
variable {H1 H' H2 : Hp} {p C dx : Addr} {F F' : List (Str × V)}
theorem Mid.put (m : Mid H1 p C dx F H') : Mid H1 p C dx F' (upd H' p (.ins C dx F')) := ⟨upd_same, fun b o e n => by rw [upd_ne n]; exact m.off b o e n⟩
theorem Mid.same (m : Mid H1 p C dx F H') (s : Same H' H2) : Mid H1 p C dx F H2 := ⟨s _ _ m.own, fun b o e n => s _ _ (m.off b o e n)⟩
theorem Mid.keep (m : Mid H1 p C dx F H') (h : H1 p = some (.ins C dx [])) : Keep H1 H' := fun b o e n => m.off b o e fun z => by
  rw [z, h] at e
  cases e
  exact n _ _ _ rfl
end
theorem unlock_same {H H' : Hp} {d : Addr} {o : Obj} {u : HO} (h : H d = some u) (s : Same (upd H d (.frz o u)) H') : Same H (upd H' d u) := fun b x e => by
  by_cases z : b = d
  · rw [z, upd_same]
    rw [z, h] at e
    exact e
  · rw [upd_ne z]
    exact s _ _ (by rw [upd_ne z]; exact e)
section
variable {K : PySem.W.Frag} {tl : TE} {ts : List TE} {E : Addr} {kvs : List (Key × V)} {σ : L2.St} {H H7 : Hp} {Q : List (Key × V) → Hp → Prop} {b : Addr} {zs : List Str} {v : V} {i0 : Nat} {vs : List Nat}
theorem keysK_len (v : V) (zs : List Str) : (keysK v zs).length = zs.length := by
  unfold keysK
  rw [List.length_map]
/-- **{word: v for word in (a tuple of words)}, of words that are new -/
theorem star_tup (S : Same H7 H) (nE : H7 E = none) (eE : H E = some (.dK kvs)) (eb : H7 b = some (.tup (zs.map V.str))) (nd : zs.Nodup) (few : zs.length ≤ 1000) (ndk : ((kvs ++ keysK v zs).map (·.1)).Nodup) (fewk : kvs.length ≤ 1000)
    (l0 : i0 < σ.length) (hw : wipe ((wipe σ vs).set i0 (some (.str ""))) vs = wipe σ vs) (hw2 : ∀ x : V, wipe ((wipe σ vs).set i0 (some x)) vs = wipe σ vs) (rd : ∀ R : V → Hp → Prop, R (.ref b) H → tl σ H R)
    (next : ∀ H', Same H7 H' → H' E = some (.dK (kvs ++ keysK v zs)) → tStarsL ts E (kvs ++ keysK v zs) σ H' Q) :
    tStarsL (tDc (iTup K tl) (gName i0) tYes (tVar i0) (tC v) vs :: ts) E kvs σ H Q := by
  refine rd _ ⟨b, rfl, ⟨_, SqT.of (S _ _ eb)⟩, fun D nD => ?_⟩
  have wk : Walk (Itt K b) zs.length (fun H => SqT K H b (zs.map V.str)) (YAt (zs.map V.str)) := by
    have y := walk_tup (K := K) (a := b) (xs := zs.map V.str)
    rw [List.length_map] at y
    exact y
  refine dc_words wk nD few nd (fun H' s => SqT.of (s _ _ (S _ _ eb))) (fun i H1 x H2 lt y => ?_) l0 hw hw2 fun H' s e => ⟨D, keysK v zs, rfl, ne_of_none eE nD, s _ _ eE, e, ?_, ?_⟩
  · obtain ⟨r1, r2⟩ := y
    rw [List.getElem?_map] at r2
    obtain ⟨z, r3, rfl⟩ := Option.map_eq_some_iff.mp r2
    exact ⟨r1, z, r3, rfl⟩
  · rw [keysK_len, sizeLine_eq]
    omega
  · rw [merge_new ndk]
    refine next _ (fun c o z => ?_) upd_same
    rw [upd_ne (ne_of_none z nE)]
    exact s _ _ (S _ _ z)
/-- .. of a dict's keys, under its lock -/
theorem star_keys {d : Addr} {ps : List (Str × Str)} (S : Same H7 H) (nE : H7 E = none) (eE : H E = some (.dK kvs)) (ed : H7 d = some (.dK (lenK ps))) (nd : (ps.map (·.1)).Nodup) (few : ps.length ≤ 1000) (ndk : ((kvs ++ keysK v (ps.map (·.1))).map (·.1)).Nodup) (fewk : kvs.length ≤ 1000)
    (l0 : i0 < σ.length) (hw : wipe ((wipe σ vs).set i0 (some (.str ""))) vs = wipe σ vs) (hw2 : ∀ x : V, wipe ((wipe σ vs).set i0 (some x)) vs = wipe σ vs) (rd : ∀ (o : HO) (R : V → Hp → Prop), R (.ref d) (upd H d o) → tl σ (upd H d o) R)
    (next : ∀ H', Same H7 H' → H' E = some (.dK (kvs ++ keysK v (ps.map (·.1)))) → tStarsL ts E (kvs ++ keysK v (ps.map (·.1))) σ H' Q) :
    tStarsL (tLockE (tDc (iKeys tl) (gName i0) tYes (tVar i0) (tC v) vs) :: ts) E kvs σ H Q := by
  have hd := S _ _ ed
  have dE : d ≠ E := ne_of_none ed nE
  refine ⟨d, .dK (lenK ps), hd, trivial, fun od => rd _ _ ⟨d, od, rfl, .inl ⟨lenK ps, upd_same, fun D nD => ?_⟩⟩⟩
  have wk : Walk (Itk d od (lenK ps)) (ps.map (·.1)).length (fun H => H d = some (.frz od (.dK (lenK ps)))) (fun i H x H' => H' = H ∧ ∃ k v, (lenK ps)[i]? = some (k, v) ∧ x = kV k) := by
    have y := walk_keys (d := d) (o := od) (kvs := lenK ps)
    have el : (lenK ps).length = (ps.map (·.1)).length := by
      unfold lenK
      rw [List.length_map, List.length_map]
    rw [el] at y
    exact y
  have Ed : (upd H d (.frz od (.dK (lenK ps)))) E = some (.dK kvs) := by rw [upd_ne dE.symm]; exact eE
  have nDd : D ≠ d := fun z => by rw [z, upd_same] at nD; cases nD
  refine dc_words wk nD (by rw [List.length_map]; exact few) nd (fun H' s => s _ _ upd_same) (fun i H1 x H2 lt y => ?_) l0 hw hw2 fun H' s e => ⟨s _ _ upd_same, D, keysK v (ps.map (·.1)), rfl, ne_of_none Ed nD, ?_, ?_, ?_, ?_⟩
  · obtain ⟨r1, k, u, r2, rfl⟩ := y
    unfold lenK at r2
    rw [List.getElem?_map] at r2
    obtain ⟨z, r3, r4⟩ := Option.map_eq_some_iff.mp r2
    cases r4
    refine ⟨r1, z.1, ?_, rfl⟩
    rw [List.getElem?_map, r3]
    rfl
  · rw [upd_ne dE.symm]
    exact s _ _ Ed
  · rw [upd_ne nDd]
    exact e
  · rw [keysK_len, List.length_map, sizeLine_eq]
    omega
  · rw [merge_new ndk]
    have u := unlock_same hd s
    refine next _ (fun c o z => ?_) upd_same
    rw [upd_ne (ne_of_none z nE)]
    exact u _ _ (S _ _ z)
end
theorem isFrame_is {d1 d2 d3 : PyData} (h : isFrame d1 d2 d3 = true) : areArr d1 = true ∧ areNm 6 d2 = true ∧ areNm 6 d3 = true ∧ (wordsD d1 d2 d3).Nodup := by
  unfold isFrame at h
  rw [Bool.and_eq_true, Bool.and_eq_true, Bool.and_eq_true] at h
  exact ⟨h.1, h.2.1, h.2.2.1, (nodupW_is h.2.2.2).1⟩
abbrev sInit : Stmt := inClass (topS 27) 0
abbrev nInit : List Str := ["self", "arrays", "positions", "values", "array", "length", "word"]
theorem scInit : FnScope nInit ["self", "arrays", "positions", "values"] (defScope sInit) :=
  ⟨rfl, rfl, rfl, by decide +kernel, rfl, by decide +kernel, by decide +kernel⟩
def spInit (C CI : Addr) : Sp := fun vs H Q E => ∃ (p dx : Addr) (v1 v2 v3 : V) (d1 d2 d3 : PyData), vs = [.ref p, v1, v2, v3] ∧ H p = some (.ins C dx []) ∧ Shw H v1 d1 ∧ Shw H v2 d2 ∧ Shw H v3 d3 ∧ gd d1 = true ∧ gd d2 = true ∧ gd d3 = true ∧
  (isFrame d1 d2 d3 = false → ∀ H', Same H H' → E (.ref CI) none H') ∧
  (isFrame d1 d2 d3 = true → ∀ H', (∀ b o, H b = some o → b ≠ p → H' b = some o) → FrameAt C H' p v1 v2 v3 (prsD d1) (strsD d2) (strsD d3) → Q .non H')
section
variable {P : Program} {w : World} {K : PySem.W.Frag} {mg : Str → Option Value} {base : Heap}
theorem ok_init {f C CI : Addr} {fd : FuncData} (F : Fun K "__init__" "Frame.__init__" sInit f fd) (T : FrTxt K mg C) (M : MkP K mg "InvalidFrame" CI) (FO : Fnc P w K mg base CX0 4 "is_frame_of" ["arrays", "positions", "values"] spFrameOf)
    (L : Fnc P w K mg base CX0 1 "lengths_in" ["arrays"] spLens) : FnOk P w K mg base (L2N.CX P w) 5 f fd ["self", "arrays", "positions", "values"] (spInit C CI) := by
  refine okN F scInit (fun vs H Q E h => ?_) (fun cdv A outer s H vs Q E hr h => ?_)
  · obtain ⟨p, dx, v1, v2, v3, d1, d2, d3, rfl, _⟩ := h
    rfl
  · obtain ⟨p, dx, v1, v2, v3, d1, d2, d3, rfl, hp, s1, s2, s3, g1, g2, g3, bad, good⟩ := h
    refine ⟨_, pss_cons (ps_if (pt_not (pt_val (pe_fnc FO hr (by omega) (by rfl) pass0 (pa_cons (pv 1) (pa_cons (pv 2) (pa_cons (pv 3) pa_nil)))))) (pss_one (L2N.ps_raise rfl (L2N.takes_of rfl rfl rfl rfl) (pmk_mkPN M (by rfl)))) pss_nil)
      (pss_cons (ps_fld (pv 0) (pv 1) rfl)
      (pss_cons (ps_fld (pv 0) (pv 2) rfl)
      (pss_cons (ps_fld (pv 0) (pv 3) rfl)
      (pss_cons (ps_fld (pv 0) (pe_fnc L hr (by omega) (by rfl) pass0 (pa_cons (pv 1) pa_nil)) rfl)
      (pss_cons (ps_fld (pv 0) (pe_dc (own := [("array", 4), ("length", 5)]) (g := gTup K 2 (gCons (gName 4) (gCons (gName 5) gNil))) (tt := tYes) rfl scInit.nd (pi_tup (pv 1)) (blkOk_by (N := nInit) (sc := defScope sInit) (by decide +kernel))
          (fun _ _ _ _ _ => pg_tup rfl (pgs_cons (pg_name (i := 4) scInit.nd rfl (Or.inl rfl) (Or.inr rfl)) (pgs_cons (pg_name (i := 5) scInit.nd rfl (Or.inl rfl) (Or.inr rfl)) pgs_nil))) (fun _ _ _ _ _ => pts_nil)
          (fun _ _ _ _ _ => pv 4) (fun _ _ _ _ _ => pv 5)) rfl)
      (pss_one (ps_fld (pv 0) (pe_stars (PStars.cons (pe_lock (pe_dc (own := [("word", 6)]) (g := gName 6) (tt := tYes) rfl scInit.nd (pi_keys (pe_fld (pv 0) rfl)) (blkOk_by (N := nInit) (sc := defScope sInit) (by decide +kernel))
            (fun _ _ _ _ _ => pg_name (i := 6) scInit.nd rfl (Or.inl rfl)) (fun _ _ _ _ _ => pts_nil) (fun _ _ _ _ _ => pv 6) (fun _ _ _ _ _ => pe_str)))
          (PStars.cons (pe_dc (own := [("word", 6)]) (g := gName 6) (tt := tYes) rfl scInit.nd (pi_tup (pe_fld (pv 0) rfl)) (blkOk_by (N := nInit) (sc := defScope sInit) (by decide +kernel))
            (fun _ _ _ _ _ => pg_name (i := 6) scInit.nd rfl (Or.inl rfl)) (fun _ _ _ _ _ => pts_nil) (fun _ _ _ _ _ => pv 6) (fun _ _ _ _ _ => pe_str))
          (PStars.cons (pe_dc (own := [("word", 6)]) (g := gName 6) (tt := tYes) rfl scInit.nd (pi_tup (pv 2)) (blkOk_by (N := nInit) (sc := defScope sInit) (by decide +kernel))
            (fun _ _ _ _ _ => pg_name (i := 6) scInit.nd rfl (Or.inl rfl)) (fun _ _ _ _ _ => pts_nil) (fun _ _ _ _ _ => pv 6) (fun _ _ _ _ _ => pe_str))
          (PStars.cons (pe_dc (own := [("word", 6)]) (g := gName 6) (tt := tYes) rfl scInit.nd (pi_tup (pv 3)) (blkOk_by (N := nInit) (sc := defScope sInit) (by decide +kernel))
            (fun _ _ _ _ _ => pg_name (i := 6) scInit.nd rfl (Or.inl rfl)) (fun _ _ _ _ _ => pts_nil) (fun _ _ _ _ _ => pv 6) (fun _ _ _ _ _ => pe_str)) PStars.nil)))) rfl (by nofun)) rfl))))))), ?_⟩
    refine ⟨v1, rfl, v2, rfl, v3, rfl, v1, v2, v3, d1, d2, d3, rfl, s1, s2, s3, g1, g2, g3, fun H1 w1 => ⟨_, rfl, ?_⟩⟩
    cases e : isFrame d1 d2 d3 with
    | false => exact bad e H1 w1
    | true =>
      obtain ⟨x1, x2, x3, nd⟩ := isFrame_is e
      obtain ⟨a1, l1⟩ := arrays_are x1
      obtain ⟨a2, l2⟩ := names_are x2
      obtain ⟨a3, l3⟩ := names_are x3
      have y1 : Arr H1 v1 (prsD d1) := by
        have y := Shw.same s1 w1
        rw [a1] at y
        exact y
      have y2 : Txts H1 v2 (strsD d2) := txts_of (by rw [← a2]; exact Shw.same s2 w1)
      have y3 : Txts H1 v3 (strsD d3) := txts_of (by rw [← a3]; exact Shw.same s3 w1)
      have hp1 := w1 _ _ hp
      replace good := fun (H' : Hp) (g : ∀ b o, H1 b = some o → b ≠ p → H' b = some o) => good e H' fun b o z n => g b o (w1 b o z) n
      clear bad e a1 a2 a3 x1 x2 x3 g1 g2 g3 s1 s2 s3
      have nd' : (wordsOf (prsD d1) (strsD d2) (strsD d3)).Nodup := nd
      clear nd
      generalize prsD d1 = ps at *
      generalize strsD d2 = qs at *
      generalize strsD d3 = rs at *
      have ln := lensOf_le ps
      have nd := nd'
      unfold wordsOf at nd
      have nA := (List.nodup_append.mp nd).1
      have nR := (List.nodup_append.mp nd).2.1
      have nL := (List.nodup_append.mp nR).1
      have nQR := (List.nodup_append.mp nR).2.1
      have nQ := (List.nodup_append.mp nQR).1
      have nV := (List.nodup_append.mp nQR).2.1
      have m0 : Mid H1 p C dx [] H1 := ⟨hp1, fun _ _ e _ => e⟩
      have f1 : putF "_arrays" v1 [] = (["_arrays"] : List Str).zip [v1] := putF_zip (ns := []) (vs := []) (by decide +kernel) rfl
      refine ⟨v1, rfl, .ref p, rfl, p, C, dx, _, rfl, m0.own, T.cl, T.no _ (by decide +kernel), (by show 0 < 1000; decide), ?_⟩
      rw [f1]
      have m1 := m0.put (F' := (["_arrays"] : List Str).zip [v1])
      have f2 : putF "_positions" v2 ((["_arrays"] : List Str).zip [v1]) = (["_arrays", "_positions"] : List Str).zip [v1, v2] := putF_zip (by decide +kernel) rfl
      refine ⟨v2, rfl, .ref p, rfl, p, C, dx, _, rfl, m1.own, T.cl, T.no _ (by decide +kernel), (by show 1 < 1000; decide), ?_⟩
      rw [f2]
      have m2 := m1.put (F' := (["_arrays", "_positions"] : List Str).zip [v1, v2])
      have f3 : putF "_amounts" v3 ((["_arrays", "_positions"] : List Str).zip [v1, v2]) = (["_arrays", "_positions", "_amounts"] : List Str).zip [v1, v2, v3] := putF_zip (by decide +kernel) rfl
      refine ⟨v3, rfl, .ref p, rfl, p, C, dx, _, rfl, m2.own, T.cl, T.no _ (by decide +kernel), (by show 2 < 1000; decide), ?_⟩
      rw [f3]
      have m3 := m2.put (F' := (["_arrays", "_positions", "_amounts"] : List Str).zip [v1, v2, v3])
      generalize upd (upd (upd H1 p _) p _) p _ = H3 at m3 ⊢
      refine ⟨v1, rfl, v1, ps, rfl, Shw.keep (m3.keep hp1) y1, by omega, fun t H4 w4 e4 => ?_⟩
      have m4 := m3.same w4
      have f4 : putF "_lengths" (.ref t) ((["_arrays", "_positions", "_amounts"] : List Str).zip [v1, v2, v3]) = (["_arrays", "_positions", "_amounts", "_lengths"] : List Str).zip [v1, v2, v3, .ref t] := putF_zip (by decide +kernel) rfl
      refine ⟨.ref p, rfl, p, C, dx, _, rfl, m4.own, T.cl, T.no _ (by decide +kernel), (by show 3 < 1000; decide), ?_⟩
      rw [f4]
      have m5 := m4.put (F' := (["_arrays", "_positions", "_amounts", "_lengths"] : List Str).zip [v1, v2, v3, .ref t])
      have np : t ≠ p := fun z => by rw [z, m4.own] at e4; cases e4
      have e5 : (upd H4 p (.ins C dx ((["_arrays", "_positions", "_amounts", "_lengths"] : List Str).zip [v1, v2, v3, .ref t]))) t = some (.tup ((lensOf ps).map V.str)) := by rw [upd_ne np]; exact e4
      generalize upd H4 p _ = H5 at m5 e5 ⊢
      have y15 := Shw.keep (m5.keep hp1) y1
      obtain ⟨a, xs, rfl, ea, lx, at_⟩ := arr_get y15
      refine ⟨.ref a, rfl, a, rfl, ⟨_, SqT.of ea⟩, fun D nD => ?_⟩
      refine dc_tup (K := K) (a := a) (xs := xs) (fun m H' => Same H5 H' ∧ H' D = some (.dK (lenK (ps.take m)))) ⟨same_upd nD, upd_same⟩ (fun m H' _ hP => SqT.of (hP.1 _ _ ea)) (fun m x H' hm hP => ?_) (fun H6 hP => ?_)
      · obtain ⟨u1, u2⟩ := hP
        obtain ⟨q, b, hq, rfl, eb⟩ := at_ m x hm
        have short : (lenK (ps.take m)).length < sizeLine := by
          unfold lenK
          rw [List.length_map, List.length_take, sizeLine_eq]
          omega
        refine ⟨b, _, rfl, SqT.of (u1 _ _ eb), rfl, _, _, rfl, _, _, rfl, rfl, rfl, _, rfl, _, rfl, _, .inr q.1, rfl, u2, short, fun c o z => ?_, ?_⟩
        · rw [upd_ne (ne_of_none z nD)]
          exact u1 _ _ z
        · rw [upd_same, putK_lenK nA hq]
      · obtain ⟨w6, e6⟩ := hP
        rw [lx, List.take_length] at e6
        have m6 := m5.same w6
        have f5 : putF "_length_of" (.ref D) ((["_arrays", "_positions", "_amounts", "_lengths"] : List Str).zip [.ref a, v2, v3, .ref t]) = (["_arrays", "_positions", "_amounts", "_lengths", "_length_of"] : List Str).zip [.ref a, v2, v3, .ref t, .ref D] := putF_zip (by decide +kernel) rfl
        refine ⟨.ref p, rfl, p, C, dx, _, rfl, m6.own, T.cl, T.no _ (by decide +kernel), (by show 4 < 1000; decide), ?_⟩
        rw [f5]
        have m7 := m6.put (F' := (["_arrays", "_positions", "_amounts", "_lengths", "_length_of"] : List Str).zip [.ref a, v2, v3, .ref t, .ref D])
        have nD' : D ≠ p := fun z => by rw [z, m6.own] at e6; cases e6
        have d7 : (upd H6 p (.ins C dx ((["_arrays", "_positions", "_amounts", "_lengths", "_length_of"] : List Str).zip [.ref a, v2, v3, .ref t, .ref D]))) D = some (.dK (lenK ps)) := by rw [upd_ne nD']; exact e6
        have t7 : (upd H6 p (.ins C dx ((["_arrays", "_positions", "_amounts", "_lengths", "_length_of"] : List Str).zip [.ref a, v2, v3, .ref t, .ref D]))) t = some (.tup ((lensOf ps).map V.str)) := by rw [upd_ne np]; exact w6 _ _ e5
        generalize upd H6 p _ = H7 at m7 d7 t7 ⊢
        intro E nE
        obtain ⟨b2, rfl, eb2⟩ := y2.keep (m7.keep hp1)
        obtain ⟨b3, rfl, eb3⟩ := y3.keep (m7.keep hp1)
        have kn := nd_inr nd'
        rw [← kinds_keys] at kn
        have kn3 : (((keysK (.str "array") (ps.map (·.1)) ++ keysK (.str "length") (lensOf ps)) ++ keysK (.str "position") qs).map (·.1)).Nodup := by
          unfold kindsOf at kn
          rw [List.map_append] at kn
          exact (List.nodup_append.mp kn).1
        have kn2 : ((keysK (.str "array") (ps.map (·.1)) ++ keysK (.str "length") (lensOf ps)).map (·.1)).Nodup := by
          rw [List.map_append] at kn3
          exact (List.nodup_append.mp kn3).1
        have kn1 : ((([] : List (Key × V)) ++ keysK (.str "array") (ps.map (·.1))).map (·.1)).Nodup := by
          rw [List.map_append] at kn2
          exact (List.nodup_append.mp kn2).1
        have nDp : D ≠ p := nD'
        refine star_keys (same_upd nE) nE upd_same d7 nA (by omega) kn1 (Nat.zero_le _) (show 6 < 7 by decide) rfl (fun _ => rfl) (fun o R r => ⟨.ref p, rfl, p, C, dx, _, .ref D, rfl, ?_, T.cl, T.no _ (by decide +kernel), lookup_zip (ns := ["_arrays", "_positions", "_amounts", "_lengths", "_length_of"]) (vs := [.ref a, .ref b2, .ref b3, .ref t, .ref D]) (i := 4) (by decide +kernel) rfl, r⟩) fun H8 w8 e8 => ?_
        · rw [upd_ne nDp.symm, upd_ne (ne_of_none m7.own nE)]
          exact m7.own
        refine star_tup w8 nE e8 t7 nL (by omega) kn2 (by rw [List.nil_append, keysK_len, List.length_map]; omega) (show 6 < 7 by decide) rfl (fun _ => rfl) (fun R r => ⟨.ref p, rfl, p, C, dx, _, .ref t, rfl, w8 _ _ m7.own, T.cl, T.no _ (by decide +kernel), lookup_zip (ns := ["_arrays", "_positions", "_amounts", "_lengths", "_length_of"]) (vs := [.ref a, .ref b2, .ref b3, .ref t, .ref D]) (i := 3) (by decide +kernel) rfl, r⟩) fun H9 w9 e9 => ?_
        refine star_tup w9 nE e9 eb2 nQ (by omega) kn3 (by rw [List.nil_append, List.length_append, keysK_len, keysK_len, List.length_map]; omega) (show 6 < 7 by decide) rfl (fun _ => rfl) (fun R r => ⟨.ref b2, rfl, r⟩) fun H10 w10 e10 => ?_
        refine star_tup w10 nE e10 eb3 nV (by omega) kn (by rw [List.nil_append, List.length_append, List.length_append, keysK_len, keysK_len, keysK_len, List.length_map]; omega) (show 6 < 7 by decide) rfl (fun _ => rfl) (fun R r => ⟨.ref b3, rfl, r⟩) fun H11 w11 e11 => ?_
        have m11 := m7.same w11
        have f6 : putF "_kinds" (.ref E) ((["_arrays", "_positions", "_amounts", "_lengths", "_length_of"] : List Str).zip [.ref a, .ref b2, .ref b3, .ref t, .ref D]) = frN.zip [.ref a, .ref b2, .ref b3, .ref t, .ref D, .ref E] := putF_zip (by decide +kernel) rfl
        refine ⟨.ref p, rfl, p, C, dx, _, rfl, m11.own, T.cl, T.no _ (by decide +kernel), (by show 5 < 1000; decide), ?_⟩
        rw [f6]
        have m12 := m11.put (F' := frN.zip [.ref a, .ref b2, .ref b3, .ref t, .ref D, .ref E])
        have nEp : E ≠ p := (ne_of_none m7.own nE).symm
        refine good _ (fun b o z n => m12.off b o z n) ⟨⟨dx, t, D, E, upd_same, ?_, ?_, ?_⟩, ?_, ?_, ?_⟩
        · rw [upd_ne np]; exact w11 _ _ t7
        · rw [upd_ne nDp]; exact w11 _ _ d7
        · rw [upd_ne nEp]; exact e11
        · exact Shw.keep (m12.keep hp1) y1
        · exact y2.keep (m12.keep hp1)
        · exact y3.keep (m12.keep hp1)
end
end K03

set_option autoImplicit false
set_option maxRecDepth 100000
set_option maxHeartbeats 4000000
namespace K03
open PySem PySem.Spec PyProof.Rows L2 KX
/-- a statement that is never come to -/
theorem ps_never {X : Cx} {st : Stmt} : PS X st (fun _ _ _ => False) := ⟨fun _ _ _ _ _ _ h => h.elim⟩
def isStrD : PyData → Bool
  | .str _ => true
  | _ => false
theorem kit_strD (d : PyData) : kitB (tyD d) "str" = some (isStrD d) := by
  have a : (["NoneType", "bool", "int", "tuple", "list", "dict"].all fun t => kitB t "str" == some false) = true := by decide +kernel
  have b := fun t h => beq_iff_eq.mp (List.all_eq_true.mp a t h)
  cases d with
  | tuple ds => exact b "tuple" (by simp)
  | none => exact b "NoneType" (by simp)
  | bool _ => exact b "bool" (by simp)
  | int _ => exact b "int" (by simp)
  | str _ => show kitB "str" "str" = some true; decide +kernel
  | list _ => exact b "list" (by simp)
  | dict _ => exact b "dict" (by simp)
def hasW (ws : List Str) : PyData → Bool
  | .str z => decide (z ∈ ws)
  | _ => false
theorem kinds_some (ps : List (Str × Str)) (qs rs : List Str) (z : Str) : (valV (kindsOf ps qs rs) (.inr z)).isSome = decide (z ∈ wordsOf ps qs rs) := by
  have e : ((.inr z : Key) ∈ (kindsOf ps qs rs).map (·.1)) ↔ z ∈ wordsOf ps qs rs := by
    rw [kinds_keys]
    refine ⟨fun h => ?_, fun h => List.mem_map.mpr ⟨z, h, rfl⟩⟩
    obtain ⟨y, h1, h2⟩ := List.mem_map.mp h
    exact Sum.inr.inj h2 ▸ h1
  cases q : valV (kindsOf ps qs rs) (.inr z) with
  | none => exact (decide_eq_false fun m => valV_not q (e.mpr m)).symm
  | some v => exact (decide_eq_true (e.mp (valV_in q))).symm
theorem FnOk.r {P : Program} {w : World} {K : PySem.W.Frag} {mg : Str → Option Value} {base : Heap} {CX : CXT} {k : Nat} {f : Addr} {fd : FuncData} {ps : List Str} {sp : Sp} (F : FnOk P w K mg base CX k f fd ps sp) (hb : Binds K fd ps []) : FnR P w K mg base CX k f sp :=
  (F.raw hb .nil).imp fun vs H Q E h => by rw [List.append_nil]; exact h
/-- a method of the class, with its promise -/
structure OM (P : Program) (w : World) (K : PySem.W.Frag) (mg : Str → Option Value) (base : Heap) (CX : CXT) (k : Nat) (C : Addr) (m : Str) (ps : List Str) (sp : Sp) : Prop where
  ex : ∃ (g : Addr) (fd : FuncData), OwnDef K C m g ∧ PySem.W.keepIn K (.ref g) = true ∧ FnOk P w K mg base CX k g fd ps sp ∧ Binds K fd ps []
section
variable {X : Cx} {CX : CXT} {C : Addr} {k j : Nat} {sp : Sp} {ps : List Str} {E : XK}
theorem OM.isIn (O : OM X.prog X.w X.K X.mg X.base CX k C "__contains__" ps sp) (hr : Room j X.A) (hk : k ≤ j) (hx : Passes CX X E) : OpR X (compareOp .In) (rInOwn C sp E false) := by
  obtain ⟨g, fd, D, _, F, hb⟩ := O.ex
  exact op_inOwn D (FnOk.r F hb) (hr.mono hk) hx
theorem OM.notIn (O : OM X.prog X.w X.K X.mg X.base CX k C "__contains__" ps sp) (hr : Room j X.A) (hk : k ≤ j) (hx : Passes CX X E) : OpR X (compareOp .NotIn) (rInOwn C sp E true) := by
  obtain ⟨g, fd, D, _, F, hb⟩ := O.ex
  exact op_niOwn D (FnOk.r F hb) (hr.mono hk) hx
theorem OM.len (O : OM X.prog X.w X.K X.mg X.base CX k C "__len__" ps sp) (hr : Room j X.A) (hk : k + 1 ≤ j) (hx : Passes CX X E) : CallR X (.builtin "len") (rLenOwn C sp E) := by
  obtain ⟨g, fd, D, _, F, hb⟩ := O.ex
  exact call_lenOwn D (FnOk.r F hb) (hr.mono hk) hx
theorem OM.str (O : OM X.prog X.w X.K X.mg X.base CX k C "__str__" ps sp) (hr : Room j X.A) (hk : k + 2 ≤ j) (hx : Passes CX X E) : CallR X (.type "str") (rStrOwn C sp E) := by
  obtain ⟨g, fd, D, _, F, hb⟩ := O.ex
  exact call_strOwn D (FnOk.r F hb) (hr.mono hk) hx
end
section
variable {P : Program} {w : World} {K : PySem.W.Frag} {mg : Str → Option Value} {base : Heap}
abbrev sIn : Stmt := inClass (topS 27) 15
abbrev sLen : Stmt := inClass (topS 27) 16
theorem scIn : FnScope ["self", "value"] ["self", "value"] (defScope sIn) := ⟨rfl, rfl, rfl, by decide +kernel, rfl, by decide +kernel, by decide +kernel⟩
theorem scLen : FnScope ["self"] ["self"] (defScope sLen) := ⟨rfl, rfl, rfl, by decide +kernel, rfl, by decide +kernel, by decide +kernel⟩
def spIn (C : Addr) : Sp := fun vs H Q _ => ∃ (p : Addr) (v1 v2 v3 : V) (ps : List (Str × Str)) (qs rs : List Str) (v : V) (d : PyData), vs = [.ref p, v] ∧ FrameAt C H p v1 v2 v3 ps qs rs ∧ Shw H v d ∧ Q (.bl (hasW (wordsOf ps qs rs) d)) H
def spLen (C : Addr) : Sp := fun vs H Q _ => ∃ (p : Addr) (v1 v2 v3 : V) (ps : List (Str × Str)) (qs rs : List Str), vs = [.ref p] ∧ FrameAt C H p v1 v2 v3 ps qs rs ∧ Q (.int (wordsOf ps qs rs).length) H
theorem ok_in {f C : Addr} {fd : FuncData} (F : Fun K "__contains__" "Frame.__contains__" sIn f fd) (T : FrTxt K mg C) (B : Free mg) : FnOk P w K mg base CX0 1 f fd ["self", "value"] (spIn C) := by
  refine F.ok scIn (fun vs H Q E h => ?_) (fun cdv A outer s H vs Q E hr h => ?_)
  · obtain ⟨p, v1, v2, v3, ps, qs, rs, v, d, rfl, _⟩ := h
    rfl
  · obtain ⟨p, v1, v2, v3, ps, qs, rs, v, d, rfl, Fr, sh, q⟩ := h
    have hu := hu_of hr
    refine ⟨_, pss_one (ps_ret (pe_and (pe_callB call_isi (by rfl) B.isinstance (by decide +kernel) (pa_cons (pv 1) (pa_cons (pe_bltn (v := .ty "str") (by rfl) B.str (by decide +kernel) rfl) pa_nil)))
      (pe_one (pe_cmp (pc_din hu (pv 1) (pe_fld (pv 0) rfl)))))), ?_⟩
    refine ⟨v, rfl, v, .ty "str", _, _, isStrD d, rfl, .ty _, shw_ty sh, kit_ty (kit_strD d), isStrD d, rfl, ?_⟩
    obtain ⟨dx, t, d2, e, ob, _, _, hk⟩ := Fr.ob
    cases sh with
    | str z =>
      refine ⟨_, rfl, _, rfl, p, C, dx, _, .ref e, rfl, ob, T.cl, T.no _ (by decide +kernel), lookup_zip (i := 5) (by decide +kernel) rfl, e, _, rfl, DGet.k (k := Sum.inr z) hk, ?_⟩
      rw [kinds_some]
      exact q
    | non => exact q
    | bl b => exact q
    | int i => exact q
    | lst _ _ => exact q
    | tup _ _ => exact q
    | dct _ => exact q
theorem kinds_len (ps : List (Str × Str)) (qs rs : List Str) : (kindsOf ps qs rs).length = (wordsOf ps qs rs).length := by
  have e := congrArg List.length (kinds_keys ps qs rs)
  rw [List.length_map, List.length_map] at e
  exact e
theorem ok_len {f C : Addr} {fd : FuncData} (F : Fun K "__len__" "Frame.__len__" sLen f fd) (T : FrTxt K mg C) (B : Free mg) : FnOk P w K mg base CX0 1 f fd ["self"] (spLen C) := by
  refine F.ok scLen (fun vs H Q E h => ?_) (fun cdv A outer s H vs Q E hr h => ?_)
  · obtain ⟨p, v1, v2, v3, ps, qs, rs, rfl, _⟩ := h
    rfl
  · obtain ⟨p, v1, v2, v3, ps, qs, rs, rfl, Fr, q⟩ := h
    refine ⟨_, pss_one (ps_ret (pe_callB call_lenD (by rfl) B.len PySem.boot_len (pa_cons (pe_fld (pv 0) rfl) pa_nil))), ?_⟩
    obtain ⟨dx, t, d2, e, ob, _, _, hk⟩ := Fr.ob
    refine ⟨_, rfl, p, C, dx, _, .ref e, rfl, ob, T.cl, T.no _ (by decide +kernel), lookup_zip (i := 5) (by decide +kernel) rfl, e, _, rfl, hk, ?_⟩
    rw [kinds_len]
    exact q
abbrev sFresh : Stmt := inClass (topS 27) 8
theorem scFresh : FnScope ["self", "value"] ["self", "value"] (defScope sFresh) := ⟨rfl, rfl, rfl, by decide +kernel, rfl, by decide +kernel, by decide +kernel⟩
def spFresh (C : Addr) : Sp := fun vs H Q _ => ∃ (p : Addr) (v1 v2 v3 : V) (ps : List (Str × Str)) (qs rs : List Str) (v : V) (d : PyData), vs = [.ref p, v] ∧ FrameAt C H p v1 v2 v3 ps qs rs ∧ Shw H v d ∧ gd d = true ∧ ∀ H', Same H H' → Q (.bl (isNm d && !hasW (wordsOf ps qs rs) d)) H'
theorem FrameAt.same {C p : Addr} {H H' : Hp} {v1 v2 v3 : V} {ps : List (Str × Str)} {qs rs : List Str} (f : FrameAt C H p v1 v2 v3 ps qs rs) (s : Same H H') : FrameAt C H' p v1 v2 v3 ps qs rs := by
  obtain ⟨⟨dx, t, d, e, h1, h2, h3, h4⟩, h5, h6, h7⟩ := f
  exact ⟨⟨dx, t, d, e, s _ _ h1, s _ _ h2, s _ _ h3, s _ _ h4⟩, Shw.same h5 s, h6.same s, h7.same s⟩
theorem ok_fresh {f C : Addr} {fd : FuncData} (F : Fun K "is_fresh" "Frame.is_fresh" sFresh f fd) (N : Fnc P w K mg base CX0 1 "is_name" ["value"] (spName K)) (O : OM P w K mg base CX0 1 C "__contains__" ["self", "value"] (spIn C)) : FnOk P w K mg base CX0 2 f fd ["self", "value"] (spFresh C) := by
  refine F.ok scFresh (fun vs H Q E h => ?_) (fun cdv A outer s H vs Q E hr h => ?_)
  · obtain ⟨p, v1, v2, v3, ps, qs, rs, v, d, rfl, _⟩ := h
    rfl
  · obtain ⟨p, v1, v2, v3, ps, qs, rs, v, d, rfl, Fr, sh, g, q⟩ := h
    refine ⟨_, pss_one (ps_ret (pe_and (pe_fnc N hr (by omega) (by rfl) pass0 (pa_cons (pv 1) pa_nil)) (pe_one (pe_cmpR (O.notIn hr (by omega) pass0) (pv 1) (pv 0) (by with_unfolding_all rfl))))), ?_⟩
    refine ⟨v, rfl, v, isNm d, rfl, shw_name sh g, fun H1 w1 => ⟨isNm d, rfl, ?_⟩⟩
    cases e : isNm d with
    | false =>
      have z := q H1 w1
      rw [e] at z
      exact z
    | true =>
      have Fr1 := Fr.same w1
      obtain ⟨dx, t, d2, e2, ob, _⟩ := Fr1.ob
      have z := q H1 w1
      rw [e] at z
      exact ⟨_, rfl, _, rfl, p, dx, _, rfl, ob, p, v1, v2, v3, ps, qs, rs, v, d, rfl, Fr1, Shw.same sh w1, ⟨_, rfl, by rw [Bool.true_xor]; exact z⟩⟩
end
end K03

set_option autoImplicit false
set_option maxRecDepth 100000
set_option maxHeartbeats 4000000
namespace K03
open PySem PySem.Spec PyProof.Rows L2 KX
theorem lookup_zip_none {f : Str} : ∀ {ns : List Str} {vs : List V}, ns.all (fun k => !(f == k)) = true → (ns.zip vs).lookup f = none
  | [], _, _ => rfl
  | n :: ns, [], _ => rfl
  | n :: ns, v :: vs, h => by
    rw [List.all_cons, Bool.and_eq_true] at h
    rw [List.zip_cons_cons, List.lookup_cons]
    have e : (f == n) = false := by
      cases q : f == n with
      | false => rfl
      | true => rw [q] at h; cases h.1
    rw [e]
    exact lookup_zip_none h.2
section
variable {X : Cx} {CX : CXT} {k j : Nat} {C : Addr} {m : Str} {sp : Sp} {ps : List Str} {E : XK} {o e : Expr} {es : List Expr} {ta : TE} {t : TA} {apos pos : Pos}
/-- o.m(..), a method of the class -/
theorem pe_om {pl : Sem Bool} (O : OM X.prog X.w X.K X.mg X.base CX k C m ps sp) (c : Cls X.K C) (hr : Room j X.A) (hk : k ≤ j) (hx : Passes CX X E) (he : PE X o ta) (ha : PA X (e :: es) t)
    (hst : starEach (e :: es) X.env = (false, eval e X.env) :: starEach es X.env := by rfl) (hpl : (backTo pos (starEach es X.env)).any (·.1) = false := by rfl)
    (ht : eval (.Call (.Attribute o m apos) (e :: es) [] pos) X.env = (do
      let ov ← eval o X.env
      standAt apos.atName
      let (f, first) ← holding [ov] (getMethod ov m pl)
      callWith pos f first (backTo pos (starEach (e :: es) X.env)) (backToKw pos (keywordEach [] X.env))) := by rfl) : PE X (.Call (.Attribute o m apos) (e :: es) [] pos) (tMeth C m sp [] E ta t) := by
  obtain ⟨g, fd, D, hkp, F, hb⟩ := O.ex
  exact pe_meth he c ⟨D.at_, D.fn, hkp⟩ F (hr.mono hk) hb .nil hx ha hst hpl ht
end
section
variable {P : Program} {w : World} {K : PySem.W.Frag} {mg : Str → Option Value} {base : Heap}
end
end K03

set_option autoImplicit false
set_option maxRecDepth 100000
set_option maxHeartbeats 4000000
namespace K03
open PySem PySem.Spec PyProof.Rows L2 KX
abbrev sWT : Stmt := topS 25
abbrev sAT : Stmt := topS 26
theorem scWT : FnScope ["words"] ["words"] (defScope sWT) := ⟨rfl, rfl, rfl, by decide +kernel, rfl, by decide +kernel, by decide +kernel⟩
theorem scAT : FnScope ["arrays", "array", "length"] ["arrays"] (defScope sAT) := ⟨rfl, rfl, rfl, by decide +kernel, rfl, by decide +kernel, by decide +kernel⟩
def wt : List Str → Str
  | [] => "-"
  | zs => Txt.join " " zs
def pairT (p : Str × Str) : Str := p.1 ++ ":" ++ p.2
def short (n : Nat) (zs : List Str) : Prop := ∀ z ∈ zs, z.length ≤ n
theorem short_sum {n : Nat} : ∀ {zs : List Str}, short n zs → (zs.map (·.length)).sum ≤ zs.length * n
  | [], _ => Nat.zero_le _
  | z :: zs, h => by
    have a := h z List.mem_cons_self
    have b := short_sum fun y hy => h y (List.mem_cons_of_mem _ hy)
    rw [List.map_cons, List.sum_cons, List.length_cons, Nat.succ_mul]
    omega
def spWT (K : PySem.W.Frag) : Sp := fun vs H Q _ => ∃ (p : Addr) (zs : List Str), vs = [.ref p] ∧ (SqL K H p (zs.map V.str) ∨ SqT K H p (zs.map V.str)) ∧ zs.length ≤ 100 ∧ short 100 zs ∧ Q (.str (wt zs)) H
def spAT : Sp := fun vs H Q _ => ∃ (v : V) (ps : List (Str × Str)), vs = [v] ∧ Arr H v ps ∧ ps.length ≤ 100 ∧ short 40 (ps.map (·.1)) ∧ short 40 (ps.map (·.2)) ∧ ∀ H', Same H H' → Q (.str (wt (ps.map pairT))) H'
section
variable {P : Program} {w : World} {K : PySem.W.Frag} {mg : Str → Option Value} {base : Heap}
theorem ok_wt {f : Addr} {fd : FuncData} (F : Fun K "words_text" "words_text" sWT f fd) (B : Free mg) : FnOk P w K mg base CX0 1 f fd ["words"] (spWT K) := by
  refine F.ok scWT (fun vs H Q E h => ?_) (fun cdv A outer s H vs Q E hr h => ?_)
  · obtain ⟨p, zs, rfl, _⟩ := h
    rfl
  · obtain ⟨p, zs, rfl, hs, few, sh, q⟩ := h
    refine ⟨_, pss_one (ps_ret (pe_ifExp (pt_cmpR op_gt (pe_callB (r := rLen K) call_len_seq (by rfl) B.len PySem.boot_len (pa_cons (pv 0) pa_nil)) pe_int (nomark _)) (pe_join pe_str (pv 0)) pe_str)), ?_⟩
    refine ⟨_, rfl, p, _, rfl, hs, _, _, rfl, rfl, _, rfl, ?_⟩
    rw [List.length_map]
    cases zs with
    | nil => exact q
    | cons z zs =>
      rw [if_pos (decide_eq_true (by show (0 : Int) < ((z :: zs).length : Nat); rw [List.length_cons]; omega))]
      refine ⟨⟨_, rfl⟩, _, rfl, _, p, z :: zs, rfl, rfl, hs, ?_, q⟩
      have a := short_sum sh
      have b : (" " : Str).length = 1 := by decide +kernel
      rw [b]
      omega
abbrev nAT : List Str := ["arrays", "array", "length"]
theorem str_three (a b : Str) : ((Str.empty ++ a) ++ ":") ++ b = pairT (a, b) := by
  rw [Str.empty_append]
  rfl
theorem pairT_len {p : Str × Str} {n m : Nat} (h1 : p.1.length ≤ n) (h2 : p.2.length ≤ m) : (pairT p).length ≤ n + m + 1 := by
  unfold pairT
  rw [Str.length_append, Str.length_append]
  have b : (":" : Str).length = 1 := by decide +kernel
  omega
theorem ok_at {f : Addr} {fd : FuncData} (F : Fun K "arrays_text" "arrays_text" sAT f fd) (W : Fnc P w K mg base CX0 1 "words_text" ["words"] (spWT K)) : FnOk P w K mg base CX0 2 f fd ["arrays"] spAT := by
  refine F.ok scAT (fun vs H Q E h => ?_) (fun cdv A outer s H vs Q E hr h => ?_)
  · obtain ⟨v, ps, rfl, _⟩ := h
    rfl
  · obtain ⟨v, ps, rfl, sh, few, k1, k2, q⟩ := h
    refine ⟨_, pss_one (ps_ret (pe_fnc W hr (by omega) (by rfl) pass0 (pa_cons (pe_lc (own := [("array", 1), ("length", 2)]) (g := gTup K 2 (gCons (gName 1) (gCons (gName 2) gNil))) (tt := tYes) rfl scAT.nd (pi_tup (pv 0)) (blkOk_by (N := nAT) (sc := defScope sAT) (by decide +kernel))
        (fun _ _ _ _ _ => pg_tup rfl (pgs_cons (pg_name (i := 1) scAT.nd rfl (Or.inl rfl) (Or.inr rfl)) (pgs_cons (pg_name (i := 2) scAT.nd rfl (Or.inl rfl) (Or.inr rfl)) pgs_nil))) (fun _ _ _ _ _ => pts_nil)
        (fun _ _ _ _ _ => pe_joined (PJ.cons (pe_fmt (pv 1)) (PJ.cons pe_str (PJ.cons (pe_fmt (pv 2)) PJ.nil))))) pa_nil))), ?_⟩
    obtain ⟨a, xs, rfl, e, ln, at_⟩ := arr_get sh
    refine ⟨.ref a, rfl, a, rfl, ⟨_, SqT.of e⟩, fun D nD => ?_⟩
    refine lc_tup (K := K) (a := a) (xs := xs) (g := gTup K 2 (gCons (gName 1) (gCons (gName 2) gNil))) (tt := tYes) (te := fun σ H Q => tJs [tFmt (tVar 1), tC (.str ":"), tFmt (tVar 2)] Str.empty σ H fun out H1 => Q (.str out) H1) (fun m H' => Same H H' ∧ H' D = some (.lst ((ps.take m).map fun p => V.str (pairT p)))) ⟨same_upd nD, upd_same⟩ (fun m H' _ hP => SqT.of (hP.1 _ _ e)) (fun m x H' hm hP => ?_) (fun H' hP => ?_)
    · obtain ⟨s1, d1⟩ := hP
      obtain ⟨p, b, hp, rfl, eb⟩ := at_ m x hm
      have l1 := k1 p.1 (List.mem_map.mpr ⟨p, List.mem_of_getElem? hp, rfl⟩)
      have l2 := k2 p.2 (List.mem_map.mpr ⟨p, List.mem_of_getElem? hp, rfl⟩)
      have c1 : (":" : Str).length = 1 := by decide +kernel
      refine ⟨b, _, rfl, SqT.of (s1 _ _ eb), rfl, _, _, rfl, _, _, rfl, rfl, rfl, ?_⟩
      refine ⟨_, rfl, .inl ⟨p.1, rfl, by rw [sizeLine_eq]; omega, p.1, rfl, by rw [sizeLine_eq, Str.empty_append]; omega, _, rfl, by rw [sizeLine_eq, Str.empty_append, Str.length_append]; omega, _, rfl, .inl ⟨p.2, rfl, by rw [sizeLine_eq]; omega, p.2, rfl, by rw [sizeLine_eq, Str.empty_append, Str.length_append, Str.length_append]; omega, ?_⟩⟩⟩
      rw [str_three]
      refine ⟨_, d1, ?_, fun c o z => ?_, ?_⟩
      · rw [List.length_map, List.length_take, sizeLine_eq]
        omega
      · rw [upd_ne (ne_of_none z nD)]
        exact s1 _ _ z
      · rw [upd_same, List.take_add_one, hp, List.map_append]
        rfl
    · obtain ⟨s1, d1⟩ := hP
      rw [ln, List.take_length] at d1
      refine ⟨D, ps.map pairT, rfl, .inl (SqL.of (by rw [List.map_map]; exact d1)), by rw [List.length_map]; exact few, fun z hz => ?_, q _ s1⟩
      obtain ⟨p, hp, rfl⟩ := List.mem_map.mp hz
      have l1 := k1 p.1 (List.mem_map.mpr ⟨p, hp, rfl⟩)
      have l2 := k2 p.2 (List.mem_map.mpr ⟨p, hp, rfl⟩)
      have := pairT_len l1 l2
      omega
end
end K03

set_option autoImplicit false
set_option maxRecDepth 100000
set_option maxHeartbeats 4000000
namespace K03
open PySem PySem.Spec PyProof.Rows L2 KX
theorem wt_len {n m : Nat} {zs : List Str} (h : zs.length ≤ n) (s : short m zs) : (wt zs).length ≤ n * m + n + 1 := by
  cases zs with
  | nil =>
    have : (wt []).length = 1 := by decide +kernel
    omega
  | cons z zs =>
    show (Txt.join " " (z :: zs)).length ≤ _
    rw [TL.join_eq]
    have a := StrLaws.join_length_le " " (z :: zs)
    have b : (" " : Str).length = 1 := by decide +kernel
    have c := short_sum s
    have d : (z :: zs).length * m ≤ n * m := Nat.mul_le_mul_right m h
    rw [b] at a
    omega
def frT (ps : List (Str × Str)) (qs rs : List Str) : Str := wt (ps.map pairT) ++ " | " ++ wt qs ++ " | " ++ wt rs
abbrev sStr : Stmt := inClass (topS 27) 18
theorem scStr : FnScope ["self"] ["self"] (defScope sStr) := ⟨rfl, rfl, rfl, by decide +kernel, rfl, by decide +kernel, by decide +kernel⟩
def spStr (C : Addr) : Sp := fun vs H Q _ => ∃ (p : Addr) (v1 v2 v3 : V) (ps : List (Str × Str)) (qs rs : List Str), vs = [.ref p] ∧ FrameAt C H p v1 v2 v3 ps qs rs ∧ ps.length ≤ 12 ∧ qs.length ≤ 12 ∧ rs.length ≤ 12 ∧ short 8 (ps.map (·.1)) ∧ short 8 (ps.map (·.2)) ∧ short 8 qs ∧ short 8 rs ∧ ∀ H', Same H H' → Q (.str (frT ps qs rs)) H'
section
variable {P : Program} {w : World} {K : PySem.W.Frag} {mg : Str → Option Value} {base : Heap}
theorem ok_str {f C : Addr} {fd : FuncData} (F : Fun K "__str__" "Frame.__str__" sStr f fd) (T : FrTxt K mg C) (A3 : Fnc P w K mg base CX0 2 "arrays_text" ["arrays"] spAT) (W : Fnc P w K mg base CX0 1 "words_text" ["words"] (spWT K)) : FnOk P w K mg base CX0 3 f fd ["self"] (spStr C) := by
  refine F.ok scStr (fun vs H Q E h => ?_) (fun cdv A outer s H vs Q E hr h => ?_)
  · obtain ⟨p, v1, v2, v3, ps, qs, rs, rfl, _⟩ := h
    rfl
  · obtain ⟨p, v1, v2, v3, ps, qs, rs, rfl, Fr, l1, l2, l3, k1, k1', k2, k3, q⟩ := h
    refine ⟨_, pss_one (ps_ret (pe_joined (PJ.cons (pe_fmt (pe_fnc A3 hr (by omega) (by rfl) pass0 (pa_cons (pe_fld (pv 0) rfl) pa_nil)))
      (PJ.cons pe_str (PJ.cons (pe_fmt (pe_fnc W hr (by omega) (by rfl) pass0 (pa_cons (pe_fld (pv 0) rfl) pa_nil)))
      (PJ.cons pe_str (PJ.cons (pe_fmt (pe_fnc W hr (by omega) (by rfl) pass0 (pa_cons (pe_fld (pv 0) rfl) pa_nil))) PJ.nil))))))), ?_⟩
    obtain ⟨dx, t, d2, e, ob, _, _, _⟩ := id Fr.ob
    have m40 : ∀ {zs : List Str} {n : Nat}, short 8 zs → 8 ≤ n → short n zs := fun h l z hz => Nat.le_trans (h z hz) l
    have b1 := wt_len (m := 17) (n := 12) (zs := ps.map pairT) (by rw [List.length_map]; exact l1) (fun z hz => by
      obtain ⟨y, hy, rfl⟩ := List.mem_map.mp hz
      exact pairT_len (k1 _ (List.mem_map.mpr ⟨y, hy, rfl⟩)) (k1' _ (List.mem_map.mpr ⟨y, hy, rfl⟩)))
    have b2 := wt_len l2 k2
    have b3 := wt_len l3 k3
    have c1 : (" | " : Str).length = 3 := by decide +kernel
    refine ⟨_, rfl, p, C, dx, _, v1, rfl, ob, T.cl, T.no _ (by decide +kernel), lookup_zip (i := 0) (by decide +kernel) rfl, v1, ps, rfl, Fr.ar, by omega, m40 k1 (by omega), m40 k1' (by omega), fun H1 w1 => ?_⟩
    have Fr1 := Fr.same w1
    obtain ⟨a2, rfl, e2⟩ := Fr1.po
    obtain ⟨a3, rfl, e3⟩ := Fr1.va
    refine .inl ⟨_, rfl, by rw [sizeLine_eq]; omega, _, rfl, by rw [sizeLine_eq, Str.empty_append]; omega, _, rfl, by rw [sizeLine_eq, Str.empty_append, Str.length_append]; omega, ?_⟩
    refine ⟨_, rfl, p, C, dx, _, .ref a2, rfl, w1 _ _ ob, T.cl, T.no _ (by decide +kernel), lookup_zip (i := 1) (by decide +kernel) rfl, a2, qs, rfl, .inr (SqT.of e2), by omega, m40 k2 (by omega), ?_⟩
    refine .inl ⟨_, rfl, by rw [sizeLine_eq]; omega, _, rfl, by rw [sizeLine_eq, Str.empty_append, Str.length_append, Str.length_append]; omega, _, rfl, by rw [sizeLine_eq, Str.empty_append, Str.length_append, Str.length_append, Str.length_append]; omega, ?_⟩
    refine ⟨_, rfl, p, C, dx, _, .ref a3, rfl, w1 _ _ ob, T.cl, T.no _ (by decide +kernel), lookup_zip (i := 2) (by decide +kernel) rfl, a3, rs, rfl, .inr (SqT.of e3), by omega, m40 k3 (by omega), ?_⟩
    refine .inl ⟨_, rfl, by rw [sizeLine_eq]; omega, _, rfl, by rw [sizeLine_eq, Str.empty_append, Str.length_append, Str.length_append, Str.length_append, Str.length_append]; omega, ?_⟩
    have z := q H1 w1
    unfold frT at z
    rw [Str.empty_append]
    exact z
end
end K03

set_option autoImplicit false
set_option maxRecDepth 100000
set_option maxHeartbeats 4000000
namespace K03
open PySem PySem.Spec PyProof.Rows L2 KX
section
variable {K : PySem.W.Frag} {H : Hp}
mutual
theorem Shw.dp : ∀ {v : V} {d : PyData}, PyData.canLay0 d = true → Shw H v d → Dp K H v d
  | _, _, _, .non => .non
  | _, _, _, .bl b => .bl b
  | _, _, _, .int i => .int i
  | _, _, _, .str x => .str x
  | _, _, n, .lst h r => .lst (SqL.of h) (ShwAll.dp (by simpa only [PyData.canLay0] using n) r)
  | _, _, n, .tup h r => .tup (SqT.of h) (ShwAll.dp (by simpa only [PyData.canLay0] using n) r)
  | _, _, n, .dct h => by simp [PyData.canLay0] at n
theorem ShwAll.dp : ∀ {vs : List V} {ds : List PyData}, PyData.canLayAll0 ds = true → ShwAll H vs ds → DpAll K H vs ds
  | _, _, _, .nil => .nil
  | _, _, n, .cons a r => by
    simp only [PyData.canLayAll0, Bool.and_eq_true] at n
    exact .cons (Shw.dp n.1 a) (ShwAll.dp n.2 r)
end
end
def frD (ps : List (Str × Str)) (qs rs : List Str) : PyData := .tuple [.tuple (ps.map prD), .tuple (qs.map PyData.str), .tuple (rs.map PyData.str)]
def okS (zs : List Str) : Prop := ∀ z ∈ zs, PyData.strOk z = true
theorem strs_lay : ∀ {zs : List Str}, okS zs → PyData.canLayAll0 (zs.map PyData.str) = true
  | [], _ => rfl
  | z :: zs, h => by simp only [List.map_cons, PyData.canLayAll0, PyData.canLay0, h z List.mem_cons_self, strs_lay fun y hy => h y (List.mem_cons_of_mem _ hy), Bool.and_self]
theorem prs_lay : ∀ {ps : List (Str × Str)}, okS (ps.map (·.1)) → okS (ps.map (·.2)) → PyData.canLayAll0 (ps.map prD) = true
  | [], _, _ => rfl
  | p :: ps, h1, h2 => by
    have a := h1 p.1 (by rw [List.map_cons]; exact List.mem_cons_self)
    have b := h2 p.2 (by rw [List.map_cons]; exact List.mem_cons_self)
    simp only [List.map_cons, PyData.canLayAll0, PyData.canLay0, prD, a, b, prs_lay (fun y hy => h1 y (by rw [List.map_cons]; exact List.mem_cons_of_mem _ hy)) (fun y hy => h2 y (by rw [List.map_cons]; exact List.mem_cons_of_mem _ hy)), Bool.and_self]
theorem strs_depth : ∀ zs : List Str, PyData.depthAll (zs.map PyData.str) = 0
  | [] => rfl
  | z :: zs => by simp only [List.map_cons, PyData.depthAll, PyData.depth, strs_depth zs, Nat.max_self]
theorem prs_depth : ∀ ps : List (Str × Str), PyData.depthAll (ps.map prD) ≤ 1
  | [] => by simp [PyData.depthAll]
  | p :: ps => by
    have := prs_depth ps
    simp only [List.map_cons, PyData.depthAll, PyData.depth, prD]
    omega
theorem fr_shaped {ps : List (Str × Str)} {qs rs : List Str} (h1 : okS (ps.map (·.1))) (h2 : okS (ps.map (·.2))) (h3 : okS qs) (h4 : okS rs) : SeqAt.shaped (frD ps qs rs) = true := by
  have d : PyData.depth (frD ps qs rs) ≤ 64 := by
    have := prs_depth ps
    simp only [frD, PyData.depth, PyData.depthAll, strs_depth]
    omega
  have c : PyData.canLay0 (frD ps qs rs) = true := by
    simp only [frD, PyData.canLay0, PyData.canLayAll0, strs_lay h3, strs_lay h4, prs_lay h1 h2, Bool.and_self]
  unfold SeqAt.shaped
  rw [c, decide_eq_true d]
  rfl
end K03

set_option autoImplicit false
set_option maxRecDepth 100000
set_option maxHeartbeats 4000000
namespace K03
open PySem PySem.Spec PyProof.Rows L2 KX
/-- what isinstance asks of class Frame -/
structure FrIs (K : PySem.W.Frag) (mg : Str → Option Value) (C : Addr) : Prop where
  gF : mg "Frame" = some (.ref C)
  ha : PySem.W.findIn K (.ref C) "__class__" = some (some (.builtin "object.__class__"))
  hn : PySem.W.specialIn K (.builtin "object.__class__") "__get__" = some (some (.builtin "getset_descriptor.__get__"))
  ht : PySem.W.takesIn K (.builtin "object.__class__") = some true
  hm : PySem.W.mroIn K C (.type "object") = some true
  kT : PySem.W.kitOne K (.ref C) (.ref C) = some true
  kL : PySem.W.kitOne K (.type "list") (.ref C) = some false
abbrev sEq : Stmt := inClass (topS 27) 17
theorem scEq : FnScope ["self", "other"] ["self", "other"] (defScope sEq) := ⟨rfl, rfl, rfl, by decide +kernel, rfl, by decide +kernel, by decide +kernel⟩
def okF (ps : List (Str × Str)) (qs rs : List Str) : Prop := okS (ps.map (·.1)) ∧ okS (ps.map (·.2)) ∧ okS qs ∧ okS rs
def spEq (C : Addr) : Sp := fun vs H Q _ => ∃ (p q : Addr) (v1 v2 v3 : V) (ps : List (Str × Str)) (qs rs : List Str), vs = [.ref p, .ref q] ∧ FrameAt C H p v1 v2 v3 ps qs rs ∧
  ((∃ xs, H q = some (.lst xs) ∧ Q (.bl false) H) ∨
   ∃ (w1 w2 w3 : V) (ps' : List (Str × Str)) (qs' rs' : List Str), FrameAt C H q w1 w2 w3 ps' qs' rs' ∧ okF ps qs rs ∧ okF ps' qs' rs' ∧ ∀ H', Same H H' → Q (.bl (PyData.eqv (frD ps qs rs) (frD ps' qs' rs'))) H')
theorem txts_shw {H : Hp} {v : V} {zs : List Str} (t : Txts H v zs) : Shw H v (.tuple (zs.map PyData.str)) := by
  obtain ⟨a, rfl, e⟩ := t
  refine .tup e ?_
  have : ∀ zs : List Str, ShwAll H (zs.map V.str) (zs.map PyData.str) := fun zs => by
    induction zs with
    | nil => exact .nil
    | cons z zs ih => exact .cons (.str z) ih
  exact this zs
theorem FrameAt.shw {C p a : Addr} {H : Hp} {v1 v2 v3 : V} {ps : List (Str × Str)} {qs rs : List Str} (f : FrameAt C H p v1 v2 v3 ps qs rs) (h : H a = some (.tup [v1, v2, v3])) : Shw H (.ref a) (frD ps qs rs) :=
  .tup h (.cons f.ar (.cons (txts_shw f.po) (.cons (txts_shw f.va) .nil)))
section
variable {P : Program} {w : World} {K : PySem.W.Frag} {mg : Str → Option Value} {base : Heap}
theorem ok_eq {f C : Addr} {fd : FuncData} (F : Fun K "__eq__" "Frame.__eq__" sEq f fd) (T : FrTxt K mg C) (S : FrIs K mg C) (B : Free mg) : FnOk P w K mg base CX0 1 f fd ["self", "other"] (spEq C) := by
  refine F.ok scEq (fun vs H Q E h => ?_) (fun cdv A outer s H vs Q E hr h => ?_)
  · obtain ⟨p, q, v1, v2, v3, ps, qs, rs, rfl, _⟩ := h
    rfl
  · obtain ⟨p, q, v1, v2, v3, ps, qs, rs, rfl, Fr, hq⟩ := h
    refine ⟨_, pss_cons (ps_if (pt_not (pt_val (pe_callB call_isi (by rfl) B.isinstance (by decide +kernel) (pa_cons (pv 1) (pa_cons (pe_glob (v := .ref C) (by rfl) S.gF rfl) pa_nil))))) (pss_one (ps_ret pe_bl)) pss_nil)
      (pss_one (ps_ret (pe_cmpR (op_eqD hr.units) (pe_tup (pa_cons (pe_fld (pv 0) rfl) (pa_cons (pe_fld (pv 0) rfl) (pa_cons (pe_fld (pv 0) rfl) pa_nil))))
        (pe_tup (pa_cons (pe_fld (pv 1) rfl) (pa_cons (pe_fld (pv 1) rfl) (pa_cons (pe_fld (pv 1) rfl) pa_nil)))) (nomark _)))), ?_⟩
    rcases hq with ⟨xs, hl, k⟩ | ⟨w1, w2, w3, ps', qs', rs', Fr', o1, o2, k⟩
    · exact ⟨.ref q, rfl, .ref q, .ref C, _, _, false, rfl, .own C, .base (.lst hl), S.kL, false, rfl, k⟩
    · obtain ⟨dx, t, d2, e, ob, _⟩ := id Fr.ob
      obtain ⟨dx', t', d2', e', ob', _⟩ := id Fr'.ob
      refine ⟨.ref q, rfl, .ref q, .ref C, _, _, true, rfl, .own C, .base (.ins ob' T.cl S.ha S.hn S.ht S.hm), S.kT, true, rfl, ?_⟩
      show if (!true) = true then _ else _
      refine iteF ?_
      refine ⟨.ref p, rfl, p, C, dx, _, v1, rfl, ob, T.cl, T.no _ (by decide +kernel), lookup_zip (i := 0) (by decide +kernel) rfl, .ref p, rfl, p, C, dx, _, v2, rfl, ob, T.cl, T.no _ (by decide +kernel), lookup_zip (i := 1) (by decide +kernel) rfl,
        .ref p, rfl, p, C, dx, _, v3, rfl, ob, T.cl, T.no _ (by decide +kernel), lookup_zip (i := 2) (by decide +kernel) rfl, (by rw [sizeLine_eq]; show 3 ≤ 16777216; decide), fun a na => ?_⟩
      have sa := same_upd (p := a) (o := .tup [v1, v2, v3]) na
      have ob2 := sa _ _ ob'
      refine ⟨.ref q, rfl, q, C, dx', _, w1, rfl, ob2, T.cl, T.no _ (by decide +kernel), lookup_zip (i := 0) (by decide +kernel) rfl, .ref q, rfl, q, C, dx', _, w2, rfl, ob2, T.cl, T.no _ (by decide +kernel), lookup_zip (i := 1) (by decide +kernel) rfl,
        .ref q, rfl, q, C, dx', _, w3, rfl, ob2, T.cl, T.no _ (by decide +kernel), lookup_zip (i := 2) (by decide +kernel) rfl, (by rw [sizeLine_eq]; show 3 ≤ 16777216; decide), fun b nb => ?_⟩
      have sb := same_upd (p := b) (o := .tup [w1, w2, w3]) nb
      have z1 := fr_shaped o1.1 o1.2.1 o1.2.2.1 o1.2.2.2
      have z2 := fr_shaped o2.1 o2.2.1 o2.2.2.1 o2.2.2.2
      have f1 := (Fr.same (sa.trans sb)).shw (a := a) (sb _ _ upd_same)
      have f2 := (Fr'.same (sa.trans sb)).shw (a := b) upd_same
      exact ⟨_, _, Shw.dp (SeqAt.canLay_of_shaped z1) f1, Shw.dp (SeqAt.canLay_of_shaped z2) f2, z1, z2, k _ (sa.trans sb)⟩
end
end K03

set_option autoImplicit false
set_option maxRecDepth 100000
set_option maxHeartbeats 4000000
namespace K03
open PySem PySem.Spec PyProof.Rows L2 KX
abbrev sLens : Stmt := topS 52
abbrev nLens : List Str := ["_law_parts_here", "_law_found", "_law_name", "_law_length"]
theorem scLens : FnScope nLens ["_law_parts_here"] (defScope sLens) := ⟨rfl, rfl, rfl, by decide +kernel, rfl, by decide +kernel, by decide +kernel⟩
def spLens2 : Sp := fun vs H Q _ => ∃ (a : Addr) (v1 v2 v3 : V) (ps : List (Str × Str)), vs = [.ref a] ∧ H a = some (.lst [v1, v2, v3]) ∧ Arr H v1 ps ∧ ps.length ≤ 1000 ∧ ∀ (l : Addr) (H' : Hp), Same H H' → H' l = some (.lst ((lensOf ps).map V.str)) → Q (.ref l) H'
theorem inV_str (z : Str) (zs : List Str) : inV (.str z) (zs.map V.str) = decide (z ∈ zs) := by
  unfold inV
  rw [List.any_map]
  induction zs with
  | nil => rfl
  | cons y zs ih =>
    rw [List.any_cons, ih]
    by_cases e : y = z
    · subst e
      simp [eqV]
    · have e2 : z ≠ y := fun h => e h.symm
      simp [eqV, e, e2]
theorem flat_strs (zs : List Str) : (zs.map V.str).all flatV = true := by
  induction zs with
  | nil => rfl
  | cons z zs ih => rw [List.map_cons, List.all_cons, ih]; rfl
section
variable {P : Program} {w : World} {K : PySem.W.Frag} {mg : Str → Option Value} {base : Heap}
theorem ok_lens2 {f : Addr} {fd : FuncData} (F : Fun K "_law_lengths" "_law_lengths" sLens f fd) : FnOk P w K mg base CX0 1 f fd ["_law_parts_here"] spLens2 := by
  refine F.ok scLens (fun vs H Q E h => ?_) (fun cdv A outer s H vs Q E hr h => ?_)
  · obtain ⟨a, v1, v2, v3, ps, rfl, _⟩ := h
    rfl
  · obtain ⟨a, v1, v2, v3, ps, rfl, ha, sh, few, q⟩ := h
    refine ⟨_, pss_cons (ps_set (i := 1) scLens.nd rfl (.inl rfl) (pe_lst pa_nil))
      (pss_cons (ps_for PassesOwn.never rfl (pi_tup (pe_ix ix_list (pv 0) pe_int (fun _ _ => rfl))) (pg_tup rfl (pgs_cons (pg_name (i := 2) scLens.nd rfl (Or.inl rfl) (Or.inr rfl)) (pgs_cons (pg_name (i := 3) scLens.nd rfl (Or.inl rfl) (Or.inr rfl)) pgs_nil)))
        (pss_one (ps_set (i := 1) scLens.nd rfl (.inl rfl) (pe_op op_cat (pv 1) (pe_ifExp (pt_cmpR op_notIn_seq (pv 3) (pv 1) (by with_unfolding_all rfl)) (pe_lst (pa_cons (pv 3) pa_nil)) (pe_lst pa_nil))))))
      (pss_one (ps_ret (pv 1)))), ?_⟩
    refine ⟨(by rw [sizeLine_eq]; decide), fun l0 n0 => ?_⟩
    have sm0 := same_upd (p := l0) (o := .lst []) n0
    obtain ⟨b, xs, rfl, e, ln, at_⟩ := arr_get (Shw.same sh sm0)
    refine ⟨_, rfl, a, _, 0, .ref b, rfl, rfl, SqL.of (sm0 _ _ ha), rfl, b, rfl, ⟨_, SqT.of e⟩, ?_⟩
    refine for_tup (K := K) (a := b) (xs := xs) (fun m σ H' => ∃ (l : Addr) (x y : Option V), σ = [some (.ref a), some (.ref l), x, y] ∧ Same (upd H l0 (.lst [])) H' ∧ H' l = some (.lst ((lensOf (ps.take m)).map V.str))) ⟨l0, none, none, rfl, Same.refl _, upd_same⟩ (fun m σ H' _ hP => ?_) (fun m x σ H' hm hP => ?_) (fun σ H' hP => ?_)
    · obtain ⟨l, x, y, _, s1, _⟩ := hP
      exact SqT.of (s1 _ _ e)
    · obtain ⟨l, x1, y1, rfl, s1, d1⟩ := hP
      obtain ⟨p, c, hp, rfl, ec⟩ := at_ m x hm
      refine ⟨c, _, rfl, SqT.of (s1 _ _ ec), rfl, _, _, rfl, _, _, rfl, rfl, ?_⟩
      have le := lensOf_le (ps.take m)
      rw [List.length_take] at le
      have nx : lensOf (ps.take (m + 1)) = if p.2 ∈ lensOf (ps.take m) then lensOf (ps.take m) else lensOf (ps.take m) ++ [p.2] := by
        unfold lensOf
        rw [List.take_add_one, hp, List.map_append]
        show onceS ((ps.take m).map (·.2) ++ [p.2]) = _
        rw [onceS_snoc]
      refine ⟨_, rfl, _, rfl, _, rfl, l, _, rfl, .inl (SqL.of d1), rfl, flat_strs _, _, rfl, ?_⟩
      have ei : (if true = true then !inV (.str p.2) ((lensOf (ps.take m)).map V.str) else inV (.str p.2) ((lensOf (ps.take m)).map V.str)) = !decide (p.2 ∈ lensOf (ps.take m)) := by rw [if_pos rfl, inV_str]
      rw [ei]
      by_cases mm : p.2 ∈ lensOf (ps.take m)
      · rw [decide_eq_true mm]
        refine iteF ⟨by rw [sizeLine_eq]; decide, fun g ng => ⟨l, g, (lensOf (ps.take m)).map V.str, _, rfl, rfl, ?_, upd_same, ?_, fun r nr => ?_⟩⟩
        · rw [upd_ne (ne_of_none d1 ng)]; exact d1
        · rw [List.length_map, sizeLine_eq]; show _ + 0 ≤ _; omega
        · refine ⟨r, _, _, rfl, s1.trans ((same_upd ng).trans (same_upd nr)), ?_⟩
          rw [upd_same, List.append_nil, nx, if_pos mm]
      · rw [decide_eq_false mm]
        refine iteT ⟨_, rfl, by rw [sizeLine_eq]; show 1 ≤ 16777216; decide, fun g ng => ⟨l, g, (lensOf (ps.take m)).map V.str, _, rfl, rfl, ?_, upd_same, ?_, fun r nr => ?_⟩⟩
        · rw [upd_ne (ne_of_none d1 ng)]; exact d1
        · rw [List.length_map, sizeLine_eq]; show _ + 1 ≤ _; omega
        · refine ⟨r, _, _, rfl, s1.trans ((same_upd ng).trans (same_upd nr)), ?_⟩
          rw [upd_same, nx, if_neg mm, List.map_append]
          rfl
    · obtain ⟨l, x1, y1, rfl, s1, d1⟩ := hP
      rw [ln, List.take_length] at d1
      exact ⟨_, rfl, q l H' (sm0.trans s1) d1⟩
end
end K03

set_option autoImplicit false
set_option maxRecDepth 100000
set_option maxHeartbeats 4000000
namespace K03
open PySem PySem.Spec PyProof.Rows L2 KX
abbrev sAll : Stmt := topS 54
abbrev nAll : List Str := ["_law_parts_here", "_law_arrays", "_law_name", "_law_length"]
theorem scAll : FnScope nAll ["_law_parts_here"] (defScope sAll) := ⟨rfl, rfl, rfl, by decide +kernel, rfl, by decide +kernel, by decide +kernel⟩
def spAll : Sp := fun vs H Q _ => ∃ (a : Addr) (v1 v2 v3 : V) (ps : List (Str × Str)) (qs rs : List Str), vs = [.ref a] ∧ H a = some (.lst [v1, v2, v3]) ∧ Arr H v1 ps ∧ Txts H v2 qs ∧ Txts H v3 rs ∧ ps.length ≤ 1000 ∧ qs.length ≤ 1000 ∧ rs.length ≤ 1000 ∧
  ∀ (l : Addr) (H' : Hp), Same H H' → H' l = some (.lst ((wordsOf ps qs rs).map V.str)) → Q (.ref l) H'
section
variable {P : Program} {w : World} {K : PySem.W.Frag} {mg : Str → Option Value} {base : Heap}
theorem ok_all {f : Addr} {fd : FuncData} (F : Fun K "_law_all_of" "_law_all_of" sAll f fd) (L : Fnc P w K mg base CX0 1 "_law_lengths" ["_law_parts_here"] spLens2) (B : Free mg) : FnOk P w K mg base CX0 2 f fd ["_law_parts_here"] spAll := by
  refine F.ok scAll (fun vs H Q E h => ?_) (fun cdv A outer s H vs Q E hr h => ?_)
  · obtain ⟨a, v1, v2, v3, ps, qs, rs, rfl, _⟩ := h
    rfl
  · obtain ⟨a, v1, v2, v3, ps, qs, rs, rfl, ha, sh, t2, t3, few1, few2, few3, q⟩ := h
    refine ⟨_, pss_cons (ps_setLc (i := 1) (own := [("_law_name", 2), ("_law_length", 3)]) (g := gTup K 2 (gCons (gName 2) (gCons (gName 3) gNil))) (tt := tYes) rfl scAll.nd rfl rfl (sw_true rfl rfl rfl (by decide +kernel)) (pi_tup (pe_ix ix_list (pv 0) pe_int (fun _ _ => rfl))) (blkOk_by (N := nAll) (sc := defScope sAll) (by decide +kernel))
        (fun _ _ _ _ _ => pg_tup rfl (pgs_cons (pg_name (i := 2) scAll.nd rfl (Or.inl rfl) (Or.inr rfl)) (pgs_cons (pg_name (i := 3) scAll.nd rfl (Or.inl rfl) (Or.inr rfl)) pgs_nil))) (fun _ _ _ _ _ => pts_nil) (fun _ _ _ _ _ => pv 2))
      (pss_one (ps_ret (pe_op op_cat (pe_op op_cat (pv 1) (pe_fnc L hr (by omega) (by rfl) pass0 (pa_cons (pv 0) pa_nil)))
        (pe_callTy call_list_of (by rfl) B.list (by decide +kernel) (pa_cons (pe_op op_catA (pe_ix ix_list (pv 0) pe_int (fun _ _ => rfl)) (pe_ix ix_list (pv 0) pe_int (fun _ _ => rfl))) pa_nil))))), ?_⟩
    obtain ⟨b, xs, rfl, e, ln, at_⟩ := arr_get sh
    obtain ⟨a2, rfl, e2⟩ := t2
    obtain ⟨a3, rfl, e3⟩ := t3
    refine ⟨_, rfl, a, _, 0, .ref b, rfl, rfl, SqL.of ha, rfl, b, rfl, ⟨_, SqT.of e⟩, fun D nD => ?_⟩
    refine lc_tup (K := K) (a := b) (xs := xs) (fun m H' => Same H H' ∧ H' D = some (.lst ((ps.take m).map fun p => V.str p.1))) ⟨same_upd nD, upd_same⟩ (fun m H' _ hP => SqT.of (hP.1 _ _ e)) (fun m x H' hm hP => ?_) (fun H' hP => ?_)
    · obtain ⟨s1, d1⟩ := hP
      obtain ⟨p, c, hp, rfl, eb⟩ := at_ m x hm
      refine ⟨c, _, rfl, SqT.of (s1 _ _ eb), rfl, _, _, rfl, _, _, rfl, rfl, rfl, _, rfl, _, d1, ?_, fun c o z => ?_, ?_⟩
      · rw [List.length_map, List.length_take, sizeLine_eq]
        omega
      · rw [upd_ne (ne_of_none z nD)]
        exact s1 _ _ z
      · rw [upd_same, List.take_add_one, hp, List.map_append]
        rfl
    · obtain ⟨s1, d1⟩ := hP
      rw [ln, List.take_length] at d1
      have ll := lensOf_le ps
      refine ⟨.ref D, rfl, .ref a, rfl, a, .ref b, .ref a2, .ref a3, ps, rfl, s1 _ _ ha, Shw.same sh s1, few1, fun l H2 s2 e4 => ?_⟩
      have d2 := s2 _ _ d1
      have ha2 := s2 _ _ (s1 _ _ ha)
      refine ⟨D, l, _, _, rfl, rfl, d2, e4, ?_, fun r nr => ?_⟩
      · rw [List.length_map, List.length_map, sizeLine_eq]
        omega
      have s3 := same_upd (p := r) (o := .lst ((ps.map fun p => V.str p.1) ++ (lensOf ps).map V.str)) nr
      have s123 := s1.trans (s2.trans s3)
      refine ⟨.ref a, rfl, a, _, 1, .ref a2, rfl, rfl, SqL.of (s3 _ _ ha2), rfl, .ref a, rfl, a, _, 2, .ref a3, rfl, rfl, SqL.of (s3 _ _ ha2), rfl, ?_⟩
      have fin : ∀ (l2 : Addr) (H5 : Hp), Same H H5 → H5 r = some (.lst ((ps.map fun p => V.str p.1) ++ (lensOf ps).map V.str)) → H5 l2 = some (.lst ((qs ++ rs).map V.str)) → rCat (.ref r) (.ref l2) H5 Q := fun l2 H5 w5 er el => by
        refine ⟨r, l2, _, _, rfl, rfl, er, el, ?_, fun z nz => q z _ (w5.trans (same_upd nz)) ?_⟩
        · simp only [List.length_map, List.length_append, sizeLine_eq]
          omega
        · rw [upd_same]
          unfold wordsOf
          simp only [List.map_append, List.map_map, List.append_assoc]
          rfl
      have g2 := s123 _ _ e2
      have g3 := s123 _ _ e3
      have gr : (upd H2 r (.lst ((ps.map fun p => V.str p.1) ++ (lensOf ps).map V.str))) r = some (.lst ((ps.map fun p => V.str p.1) ++ (lensOf ps).map V.str)) := upd_same
      generalize upd H2 r _ = H3 at s123 g2 g3 gr ⊢
      refine ⟨a2, a3, _, _, rfl, rfl, SqT.of g2, SqT.of g3, ?_, fun h1 => ?_, fun h1 h2 => ?_, fun h1 h2 t nt => ?_⟩
      · rw [List.length_map, List.length_map, sizeLine_eq]
        omega
      · have z := List.map_eq_nil_iff.mp h1
        refine ⟨a3, _, rfl, .inr (SqT.of g3), fun l2 n2 => fin l2 _ (s123.trans (same_upd n2)) (same_upd n2 _ _ gr) ?_⟩
        rw [upd_same, z, List.nil_append]
      · have z := List.map_eq_nil_iff.mp h2
        refine ⟨a2, _, rfl, .inr (SqT.of g2), fun l2 n2 => fin l2 _ (s123.trans (same_upd n2)) (same_upd n2 _ _ gr) ?_⟩
        rw [upd_same, z, List.append_nil]
      · have st := same_upd (p := t) (o := .tup (qs.map V.str ++ rs.map V.str)) nt
        refine ⟨t, _, rfl, .inr (SqT.of upd_same), fun l2 n2 => fin l2 _ ((s123.trans st).trans (same_upd n2)) (same_upd n2 _ _ (st _ _ gr)) ?_⟩
        rw [upd_same, List.map_append]
end
end K03

set_option autoImplicit false
set_option maxRecDepth 100000
set_option maxHeartbeats 4000000
namespace K03
open PySem PySem.Spec PyProof.Rows L2 KX
theorem erase_map {f : Str → V} : ∀ (l : List Str) (i : Nat), (l.map f).eraseIdx i = (l.eraseIdx i).map f
  | [], _ => rfl
  | _ :: _, 0 => rfl
  | x :: l, i + 1 => by
    show f x :: (l.map f).eraseIdx i = f x :: (l.eraseIdx i).map f
    rw [erase_map l i]
theorem erase_perm : ∀ {l : List Str} {i : Nat} (h : i < l.length), (l[i] :: l.eraseIdx i).Perm l
  | x :: l, 0, _ => List.Perm.refl _
  | x :: l, i + 1, h => by
    show (l[i]'(Nat.lt_of_succ_lt_succ h) :: x :: l.eraseIdx i).Perm (x :: l)
    exact (List.Perm.swap _ _ _).trans ((erase_perm (Nat.lt_of_succ_lt_succ h)).cons x)
abbrev sFew : Stmt := topS 50
abbrev nFew : List Str := ["_law_creel_here", "_law_items", "_law_count", "_law_left", "_law_found", "_law_turn"]
theorem scFew : FnScope nFew ["_law_creel_here", "_law_items", "_law_count"] (defScope sFew) := ⟨rfl, rfl, rfl, by decide +kernel, rfl, by decide +kernel, by decide +kernel⟩
def Grw (a : Addr) (H H' : Hp) : Prop := ∀ b o, b ≠ a → H b = some o → H' b = some o
def spFew : Sp := fun vs H Q _ => ∃ (a p : Addr) (x y c : Int) (zs : List Str) (n : Nat), vs = [.ref a, .ref p, .int n] ∧ p ≠ a ∧ H a = some (.lst [.int x, .int y, .int c]) ∧ Cr x y c ∧ c ≤ 900000 ∧ H p = some (.lst (zs.map V.str)) ∧ zs.length ≤ 1000 ∧ n ≤ zs.length ∧
  ∀ (l : Addr) (fs ls : List Str) (x' c' : Int) (H' : Hp), fs.length = n → (fs ++ ls).Perm zs → Cr x' y c' → c' ≤ c + n → H' a = some (.lst [.int x', .int y, .int c']) → Grw a H H' → l ≠ a → H' l = some (.lst (fs.map V.str)) → Q (.ref l) H'
section
variable {P : Program} {w : World} {K : PySem.W.Frag} {mg : Str → Option Value} {base : Heap}
theorem ok_few {f : Addr} {fd : FuncData} (F : Fun K "_law_few_of" "_law_few_of" sFew f fd) (Fi : Fnc P w K mg base CX0 1 "_law_fish" ["_law_creel_here", "_law_total"] spFish) (B : Free mg) (mMin : mg "min" = none) : FnOk P w K mg base CX0 2 f fd ["_law_creel_here", "_law_items", "_law_count"] spFew := by
  refine F.ok scFew (fun vs H Q E h => ?_) (fun cdv A outer s H vs Q E hr h => ?_)
  · obtain ⟨a, p, x, y, c, zs, n, rfl, _⟩ := h
    rfl
  · obtain ⟨a, p, x, y, c, zs, n, rfl, hpa, ha, C, hc, hp, few, hn, q⟩ := h
    refine ⟨_, pss_cons (ps_par (i := 3) (j := 4) rfl scFew.nd rfl rfl (by decide) rfl rfl (pa_cons (pe_callTy call_list_of (by rfl) B.list (by decide +kernel) (pa_cons (pv 1) pa_nil)) (pa_cons (pe_lst pa_nil) pa_nil)) (by rfl))
      (pss_cons (ps_for PassesOwn.never rfl (pi_range1 (by rfl) B.range (pa_cons (pe_callB (call_min2 rfl) (by rfl) mMin (by decide +kernel) (pa_cons (pv 2) (pa_cons (pe_callB (r := rLen K) call_len_seq (by rfl) B.len PySem.boot_len (pa_cons (pv 1) pa_nil)) pa_nil))) pa_nil)) (pg_name (i := 5) scFew.nd rfl (Or.inl rfl))
        (pss_one (ps_expr (pe_bm PySem.F.plainAttrs_list PySem.F.slot_list_append PySem.F.type_list_append mt_append (pv 4) (pa_cons (pe_bm PySem.F.plainAttrs_list PySem.F.slot_list_pop PySem.F.type_list_pop mt_popAt (pv 3)
          (pa_cons (pe_fnc Fi hr (by omega) (by rfl) pass0 (pa_cons (pv 0) (pa_cons (pe_callB (r := rLen K) call_len_seq (by rfl) B.len PySem.boot_len (pa_cons (pv 3) pa_nil)) pa_nil))) pa_nil)) pa_nil)))))
      (pss_one (ps_ret (pv 4)))), ?_⟩
    refine ⟨_, rfl, p, _, rfl, .inl (SqL.of hp), fun L nL => ⟨by rw [sizeLine_eq]; decide, fun Fd nF => ⟨_, _, rfl, ?_⟩⟩⟩
    have La : L ≠ a := (ne_of_none ha nL).symm
    have Lp : L ≠ p := (ne_of_none hp nL).symm
    have FL : Fd ≠ L := fun z => by rw [z, upd_same] at nF; cases nF
    have sm := (same_upd (p := L) (o := .lst (zs.map V.str)) nL).trans (same_upd (p := Fd) (o := .lst []) nF)
    have Fa : Fd ≠ a := (ne_of_none ((same_upd (p := L) (o := .lst (zs.map V.str)) nL) _ _ ha) nF).symm
    have Fp : Fd ≠ p := (ne_of_none ((same_upd (p := L) (o := .lst (zs.map V.str)) nL) _ _ hp) nF).symm
    have hL : (upd (upd H L (.lst (zs.map V.str))) Fd (.lst [])) L = some (.lst (zs.map V.str)) := by rw [upd_ne FL.symm, upd_same]
    have hF : (upd (upd H L (.lst (zs.map V.str))) Fd (.lst [])) Fd = some (.lst []) := upd_same
    have nb : ∀ b o, H b = some o → b ≠ L ∧ b ≠ Fd := fun b o e => ⟨ne_of_none e nL, ne_of_none ((same_upd (p := L) (o := .lst (zs.map V.str)) nL) _ _ e) nF⟩
    generalize upd (upd H L _) Fd _ = H2 at sm hL hF ⊢
    have en : (if (((zs.map V.str).length : Nat) : Int) < (n : Int) then (((zs.map V.str).length : Nat) : Int) else (n : Int)) = (n : Int) := by
      rw [List.length_map]
      exact if_neg (by omega)
    refine ⟨_, rfl, _, rfl, p, _, rfl, .inl (SqL.of (sm _ _ hp)), n, _, rfl, (n : Int), by rw [en], by omega, by omega, ?_⟩
    refine for_range (fun m σ' H' => ∃ (x' c' : Int) (ls fs : List Str) (t : Option V), σ' = [some (.ref a), some (.ref p), some (.int n), some (.ref L), some (.ref Fd), t] ∧ H' a = some (.lst [.int x', .int y, .int c']) ∧ Cr x' y c' ∧ c' ≤ c + m ∧ H' L = some (.lst (ls.map V.str)) ∧ H' Fd = some (.lst (fs.map V.str)) ∧ fs.length = m ∧ (fs ++ ls).Perm zs ∧ Grw a H H')
      ⟨x, c, zs, [], none, rfl, sm _ _ ha, C, by omega, hL, hF, rfl, List.Perm.refl _, fun b o _ e => sm _ _ e⟩ (fun m σ' H' hm hP => ?_) (fun σ' H' hP => ?_)
    · obtain ⟨x', c', ls, fs, t, rfl, ha', C', hc', hl', hf', fl, pm, gw⟩ := hP
      have tot := pm.length_eq
      rw [List.length_append] at tot
      have lm : (ls.map V.str).length = ls.length := List.length_map _
      refine ⟨.ref Fd, rfl, .inl ⟨rfl, _, SqL.of hf'⟩, .ref L, rfl, .inl ⟨rfl, _, SqL.of hl'⟩, .ref a, rfl, .ref L, rfl, L, _, rfl, .inl (SqL.of hl'), a, x', y, c', _, rfl, ha', C', by omega, by omega, by omega, fun r x2 c2 h0 h1 C2 l2 => ?_⟩
      rw [lm] at h1
      have hk : r.toNat < ls.length := by omega
      have er : ((r.toNat : Nat) : Int) = r := Int.toNat_of_nonneg h0
      refine ⟨L, ls.map V.str, r, r.toNat, .str (ls[r.toNat]'hk), rfl, rfl, by rw [upd_ne La]; exact hl', by omega, by omega, by rw [lm]; exact seqIndex_of h0 h1, by rw [List.getElem?_map, List.getElem?_eq_getElem hk]; rfl, ?_⟩
      refine ⟨Fd, fs.map V.str, .str (ls[r.toNat]'hk), rfl, rfl, by rw [upd_ne FL, upd_ne Fa]; exact hf', by rw [List.length_map, sizeLine_eq]; omega, ?_⟩
      refine ⟨x2, c2, ls.eraseIdx r.toNat, fs ++ [ls[r.toNat]'hk], _, rfl, ?_, C2, by omega, ?_, ?_, by rw [List.length_append, List.length_singleton]; omega, ?_, fun b o nba e => ?_⟩
      · rw [upd_ne Fa.symm, upd_ne La.symm, upd_same]
      · rw [upd_ne FL.symm, upd_same, erase_map]
      · rw [upd_same, List.map_append]
        rfl
      · rw [List.append_assoc]
        exact (List.Perm.append_left fs (erase_perm hk)).trans pm
      · obtain ⟨n1, n2⟩ := nb b o e
        rw [upd_ne n2, upd_ne n1, upd_ne nba]
        exact gw b o nba e
    · obtain ⟨x', c', ls, fs, t, rfl, ha', C', hc', hl', hf', fl, pm, gw⟩ := hP
      exact ⟨_, rfl, q Fd fs ls x' c' H' (by rw [fl]; omega) pm C' (by omega) ha' gw Fa hf'⟩
end
end K03

set_option autoImplicit false
set_option maxRecDepth 100000
set_option maxHeartbeats 4000000
namespace K03
open PySem PySem.Spec PyProof.Rows L2 KX
abbrev sFrame : Stmt := topS 53
theorem scFrame : FnScope ["_law_parts_here"] ["_law_parts_here"] (defScope sFrame) := ⟨rfl, rfl, rfl, by decide +kernel, rfl, by decide +kernel, by decide +kernel⟩
/-- Frame(..), with its __init__ -/
structure MkF (P : Program) (w : World) (K : PySem.W.Frag) (mg : Str → Option Value) (base : Heap) (C CI : Addr) : Prop where
  gF : mg "Frame" = some (.ref C)
  ex : ∃ (fI : Addr) (fd : FuncData), Mk K C fI ∧ FnOk P w K mg base (L2N.CX P w) 5 fI fd ["self", "arrays", "positions", "values"] (spInit C CI) ∧ Binds K fd ["self", "arrays", "positions", "values"] []
def spFrame (C : Addr) : Sp := fun vs H Q _ => ∃ (a : Addr) (v1 v2 v3 : V) (d1 d2 d3 : PyData), vs = [.ref a] ∧ H a = some (.lst [v1, v2, v3]) ∧ Shw H v1 d1 ∧ Shw H v2 d2 ∧ Shw H v3 d3 ∧ gd d1 = true ∧ gd d2 = true ∧ gd d3 = true ∧ isFrame d1 d2 d3 = true ∧
  ∀ (p : Addr) (H' : Hp), Same H H' → FrameAt C H' p v1 v2 v3 (prsD d1) (strsD d2) (strsD d3) → Q (.ref p) H'
section
variable {P : Program} {w : World} {K : PySem.W.Frag} {mg : Str → Option Value} {base : Heap}
theorem ok_frame {f C CI : Addr} {fd : FuncData} (F : Fun K "_law_frame" "_law_frame" sFrame f fd) (M : MkF P w K mg base C CI) : FnOk P w K mg base CX0 7 f fd ["_law_parts_here"] (spFrame C) := by
  obtain ⟨gF, fI, fdI, M, FI, hb⟩ := M
  refine F.ok scFrame (fun vs H Q E h => ?_) (fun cdv A outer s H vs Q E hr h => ?_)
  · obtain ⟨a, v1, v2, v3, d1, d2, d3, rfl, _⟩ := h
    rfl
  · obtain ⟨a, v1, v2, v3, d1, d2, d3, rfl, ha, s1, s2, s3, g1, g2, g3, ok, q⟩ := h
    refine ⟨_, pss_one (ps_ret (pe_make M FI hr (by rfl) gF hb .nil passLN (pa_cons (pe_ix ix_list (pv 0) pe_int (fun _ _ => rfl)) (pa_cons (pe_ix ix_list (pv 0) pe_int (fun _ _ => rfl)) (pa_cons (pe_ix ix_list (pv 0) pe_int (fun _ _ => rfl)) pa_nil))))), ?_⟩
    refine ⟨.ref a, rfl, a, _, 0, v1, rfl, rfl, SqL.of ha, rfl, .ref a, rfl, a, _, 1, v2, rfl, rfl, SqL.of ha, rfl, .ref a, rfl, a, _, 2, v3, rfl, rfl, SqL.of ha, rfl, fun x dx nx ndx ne => ?_⟩
    have sm := (same_upd (p := dx) (o := .own x) ndx).trans (same_upd (p := x) (o := .ins C dx []) (by rw [upd_ne ne.symm]; exact nx))
    refine ⟨x, dx, v1, v2, v3, d1, d2, d3, rfl, upd_same, Shw.same s1 sm, Shw.same s2 sm, Shw.same s3 sm, g1, g2, g3, fun z => ?_, fun _ H' kp Fr => ⟨rfl, q x H' (fun b o e => kp b o (sm _ _ e) (ne_of_none e nx)) Fr⟩⟩
    rw [ok] at z
    cases z
end
end K03

set_option autoImplicit false
set_option maxRecDepth 100000
set_option maxHeartbeats 4000000
namespace K03
open PySem PySem.Spec PyProof.Rows L2 KX
/-! data without dicts, not deep -/
def lowD (d : PyData) : Prop := PyData.canLay0 d = true ∧ PyData.depth d ≤ 20
theorem lay_all {ds : List PyData} (h : ∀ d ∈ ds, PyData.canLay0 d = true) : PyData.canLayAll0 ds = true := by
  induction ds with
  | nil => rfl
  | cons d ds ih => simp only [PyData.canLayAll0, h d List.mem_cons_self, ih fun y hy => h y (List.mem_cons_of_mem _ hy), Bool.and_self]
theorem depth_all {n : Nat} {ds : List PyData} (h : ∀ d ∈ ds, PyData.depth d ≤ n) : PyData.depthAll ds ≤ n := by
  induction ds with
  | nil => exact Nat.zero_le _
  | cons d ds ih =>
    have a := h d List.mem_cons_self
    have b := ih fun y hy => h y (List.mem_cons_of_mem _ hy)
    simp only [PyData.depthAll]
    omega
theorem low_list {ds : List PyData} (h : ∀ d ∈ ds, lowD d) : SeqAt.shaped (.list ds) = true := by
  have c : PyData.canLay0 (.list ds) = true := by
    simp only [PyData.canLay0]
    exact lay_all fun d hd => (h d hd).1
  have d : PyData.depth (.list ds) ≤ 64 := by
    have := depth_all fun d hd => (h d hd).2
    simp only [PyData.depth]
    omega
  unfold SeqAt.shaped
  rw [c, decide_eq_true d]
  rfl
theorem eqv_nil (ds : List PyData) : PyData.eqv (.list ds) (.list []) = ds.isEmpty := by
  cases ds <;> simp [PyData.eqv, PyData.eqvAll]
theorem ShwAll.snoc {H : Hp} : ∀ {vs : List V} {ds : List PyData} {v : V} {d : PyData}, ShwAll H vs ds → Shw H v d → ShwAll H (vs ++ [v]) (ds ++ [d])
  | _, _, _, _, .nil, s => .cons s .nil
  | _, _, _, _, .cons a r, s => .cons a (ShwAll.snoc r s)
/-- a comprehension over a tuple of data that keeps some of them -/
theorem lc_tupF {K : PySem.W.Frag} {a : Addr} {xs : List V} {ds : List PyData} {g : TG} {tt : TT} {te : TE} {vs : List Nat} {σ : L2.St} {H1 : Hp} {D : Addr} {Qd : Hp → Prop} (T : PyData → Bool) (hx : H1 a = some (.tup xs)) (n : H1 D = none) (few : xs.length ≤ 100000) (sh : ShwAll H1 xs ds)
    (step : ∀ (x : V) (d : PyData) (H' : Hp) (QY : VK) (QN : Hp → Prop), d ∈ ds → Shw H' x d → Same H1 H' → (T d = true → ∀ H4, Same H' H4 → QY x H4) → (T d = false → ∀ H4, Same H' H4 → QN H4) →
      g x (wipe σ vs) H' fun σ2 H2 => wipe σ2 vs = wipe σ vs ∧ tt σ2 H2 fun b H3 => if b = true then te σ2 H3 QY else QN H3)
    (fin : ∀ H' ys, Same H1 H' → H' D = some (.lst ys) → ShwAll H' ys (ds.filter T) → Qd H') :
    ∃ W : Nat → Nat → Hp → Prop, (∃ m, W 0 m (upd H1 D (.lst []))) ∧ ∀ i m H, W i m H →
      ((Itt K a).stop i H ∧ Qd H) ∨ ((Itt K a).go i H ∧ ∃ Nx : Hp → Prop, (∀ H', Nx H' → ∃ m', m' < m ∧ W (i + 1) m' H') ∧ ∀ x H', (Itt K a).yld i H x H' → g x (wipe σ vs) H' fun σ2 H2 => wipe σ2 vs = wipe σ vs ∧ tt σ2 H2 fun b H3 =>
        if b = true then te σ2 H3 fun y H4 => ∃ acc, H4 D = some (.lst acc) ∧ acc.length < sizeLine ∧ Nx (upd H4 D (.lst (acc ++ [y]))) else Nx H3) := by
  have ln := ShwAll.len sh
  refine lc_tup (K := K) (a := a) (xs := xs) (fun m H' => Same H1 H' ∧ ∃ ys, H' D = some (.lst ys) ∧ ShwAll H1 ys ((ds.take m).filter T)) ⟨same_upd n, [], upd_same, by rw [List.take_zero]; exact .nil⟩ (fun m H' _ hP => SqT.of (hP.1 _ _ hx)) (fun m x H' hm hP => ?_) (fun H' hP => ?_)
  · obtain ⟨s1, ys, d1, sy⟩ := hP
    obtain ⟨d, hd, sd⟩ := ShwAll.get sh hm
    have nx : (ds.take (m + 1)).filter T = (ds.take m).filter T ++ (if T d = true then [d] else []) := by
      rw [List.take_add_one, hd, List.filter_append]
      congr 1
      cases e : T d <;> simp [e]
    refine step x d H' _ _ (List.mem_of_getElem? hd) (Shw.same sd s1) s1 (fun e H4 s4 => ⟨ys, s4 _ _ d1, ?_, fun b o z => ?_, ys ++ [x], upd_same, ?_⟩) (fun e H4 s4 => ⟨s1.trans s4, ys, s4 _ _ d1, ?_⟩)
    · have l2 := ShwAll.len sy
      have l3 : ((ds.take m).filter T).length ≤ (ds.take m).length := List.length_filter_le _ _
      rw [List.length_take] at l3
      rw [sizeLine_eq]
      omega
    · rw [upd_ne (ne_of_none z n)]
      exact s4 _ _ (s1 _ _ z)
    · rw [nx, if_pos e]
      exact ShwAll.snoc sy sd
    · rw [nx, if_neg (by rw [e]; exact Bool.false_ne_true), List.append_nil]
      exact sy
  · obtain ⟨s1, ys, d1, sy⟩ := hP
    rw [ln, List.take_length] at sy
    exact fin H' ys s1 d1 (ShwAll.same sy s1)
/-! strip by letters -/
theorem takeW_len {p : Nat → Bool} : ∀ (l : List Nat), l.all p = false → (l.takeWhile p).length < l.length
  | [], h => nomatch h
  | c :: l, h => by
    rw [List.takeWhile_cons]
    rw [List.all_cons] at h
    cases e : p c with
    | false => rw [if_neg Bool.false_ne_true]; exact Nat.succ_pos _
    | true =>
      rw [e, Bool.true_and] at h
      rw [if_pos rfl, List.length_cons, List.length_cons]
      exact Nat.succ_lt_succ (takeW_len l h)
theorem takeW_all {p : Nat → Bool} : ∀ (l : List Nat), l.all p = true → l.takeWhile p = l
  | [], _ => rfl
  | c :: l, h => by
    rw [List.all_cons, Bool.and_eq_true] at h
    rw [List.takeWhile_cons, if_pos h.1, takeW_all l h.2]
theorem drop_takeW {p : Nat → Bool} : ∀ (l : List Nat) (c : Nat) , (l.drop (l.takeWhile p).length).head? = some c → p c = false
  | [], c, h => by simp at h
  | x :: l, c, h => by
    rw [List.takeWhile_cons] at h
    cases e : p x with
    | false =>
      rw [e, if_neg Bool.false_ne_true] at h
      have : x = c := Option.some.inj h
      rw [← this]
      exact e
    | true =>
      rw [e, if_pos rfl] at h
      exact drop_takeW l c h
theorem stripBy_empty (p : Nat → Bool) (z : Str) : decide (Txt.stripBy p true true z = Str.empty) = z.cps.toList.all p := by
  rw [stripBy_eq]
  have lz : z.length = z.cps.toList.length := by simp [Str.length]
  cases e : z.cps.toList.all p with
  | true =>
    refine decide_eq_true ?_
    have e1 : stripLo p true z = z.length := by
      unfold stripLo
      rw [if_pos rfl, takeW_all _ e, lz]
    have e2 : stripHi p true z z.length ≤ z.length := by
      unfold stripHi
      rw [if_pos rfl]
      exact Nat.sub_le _ _
    rw [e1]
    refine TL.ext_tl ?_
    show (Builtin.Str.strSub z z.length (stripHi p true z z.length)).cps.toList = _
    rw [PySem.StrLaws.strSub_toList, Nat.sub_eq_zero_of_le e2, List.take_zero]
    rfl
  | false =>
    refine decide_eq_false fun h => ?_
    have e1 := takeW_len _ e
    have lo : stripLo p true z = (z.cps.toList.takeWhile p).length := by
      unfold stripLo
      rw [if_pos rfl]
    have hi : stripLo p true z < stripHi p true z (stripLo p true z) := by
      have nf : ((z.cps.toList.drop (stripLo p true z)).reverse).all p = false := by
        rw [List.all_reverse]
        cases e3 : z.cps.toList.drop (stripLo p true z) with
        | nil =>
          have := congrArg List.length e3
          rw [List.length_drop, lo] at this
          simp only [List.length_nil] at this
          omega
        | cons c r =>
          have : p c = false := drop_takeW z.cps.toList c (by rw [← lo, e3]; rfl)
          rw [List.all_cons, this, Bool.false_and]
      have e4 := takeW_len _ nf
      rw [List.length_reverse, List.length_drop] at e4
      unfold stripHi
      rw [if_pos rfl]
      rw [lo] at e4 ⊢
      omega
    have h2 : stripHi p true z (stripLo p true z) ≤ z.length := by
      unfold stripHi
      rw [if_pos rfl]
      exact Nat.sub_le _ _
    have l3 := size_strSub z (stripLo p true z) (stripHi p true z (stripLo p true z)) h2
    rw [h] at l3
    have : Str.empty.length = 0 := by decide +kernel
    omega
theorem strip_letters (z : Str) : decide (Txt.stripChars z "abcdefghijklmnopqrstuvwxyz" = "") = z.cps.toList.all isLet := by
  have e : (fun c => ("abcdefghijklmnopqrstuvwxyz" : Str).cps.contains c) = isLet := by
    funext c
    rw [← letter_in]
    simp [Array.contains_iff_mem]
  have e2 : ("" : Str) = Str.empty := by decide +kernel
  rw [e2]
  unfold Txt.stripChars
  rw [stripBy_empty]
  exact congrArg (fun p => z.cps.toList.all p) e
end K03

set_option autoImplicit false
set_option maxRecDepth 100000
set_option maxHeartbeats 4000000
namespace K03
open PySem PySem.Spec PyProof.Rows L2 KX
/-! data that have no list whose first item is an int: none of them is the creel -/
def headInt : List PyData → Bool
  | .int _ :: _ => true
  | _ => false
mutual
def offD : PyData → Bool
  | .list xs => !headInt xs && offAll xs
  | .tuple xs => offAll xs
  | .none | .bool _ | .int _ | .dict _ | .str _ => true
def offAll : List PyData → Bool
  | [] => true
  | x :: xs => offD x && offAll xs
end
theorem offAll_mem : ∀ {xs : List PyData}, (∀ x ∈ xs, offD x = true) → offAll xs = true
  | [], _ => rfl
  | x :: xs, h => by simp only [offAll, h x List.mem_cons_self, offAll_mem fun y hy => h y (List.mem_cons_of_mem _ hy), Bool.and_self]
section
variable {a : Addr} {i : Int} {r : List V} {H H' : Hp}
theorem head_ne {xs : List V} {ds : List PyData} (ha : H a = some (.lst (.int i :: r))) {b : Addr} (hb : H b = some (.lst xs)) (s : ShwAll H xs ds) (o : headInt ds = false) : b ≠ a := fun e => by
  subst e
  rw [ha] at hb
  cases hb
  cases s with
  | cons s1 _ =>
    cases s1
    cases o
theorem tup_ne {xs : List V} (ha : H a = some (.lst (.int i :: r))) {b : Addr} (hb : H b = some (.tup xs)) : b ≠ a := fun e => by
  subst e
  rw [ha] at hb
  cases hb
theorem dk_ne (ha : H a = some (.lst (.int i :: r))) {b : Addr} (hb : H b = some (.dK [])) : b ≠ a := fun e => by
  subst e
  rw [ha] at hb
  cases hb
mutual
theorem Shw.off (ha : H a = some (.lst (.int i :: r))) (g : Grw a H H') : ∀ {v : V} {d : PyData}, offD d = true → Shw H v d → Shw H' v d
  | _, _, _, .non => .non
  | _, _, _, .bl b => .bl b
  | _, _, _, .int i => .int i
  | _, _, _, .str x => .str x
  | _, _, o, .lst h s => by
    simp only [offD, Bool.and_eq_true, Bool.not_eq_true'] at o
    exact .lst (g _ _ (head_ne ha h s o.1) h) (ShwAll.off ha g o.2 s)
  | _, _, o, .tup h s => by
    simp only [offD] at o
    exact .tup (g _ _ (tup_ne ha h) h) (ShwAll.off ha g o s)
  | _, _, _, .dct h => .dct (g _ _ (dk_ne ha h) h)
theorem ShwAll.off (ha : H a = some (.lst (.int i :: r))) (g : Grw a H H') : ∀ {vs : List V} {ds : List PyData}, offAll ds = true → ShwAll H vs ds → ShwAll H' vs ds
  | _, _, _, .nil => .nil
  | _, _, o, .cons s1 s2 => by
    simp only [offAll, Bool.and_eq_true] at o
    exact .cons (Shw.off ha g o.1 s1) (ShwAll.off ha g o.2 s2)
end
theorem Grw.trans {H1 H2 H3 : Hp} (g : Grw a H1 H2) (k : Grw a H2 H3) : Grw a H1 H3 := fun b o n e => k b o n (g b o n e)
theorem Grw.of {H1 H2 : Hp} (s : Same H1 H2) : Grw a H1 H2 := fun b o _ e => s b o e
theorem Grw.upd {H1 : Hp} {o : HO} : Grw a H1 (upd H1 a o) := fun b o n e => by rw [upd_ne n]; exact e
end
theorem off_strs : ∀ zs : List Str, offAll (zs.map PyData.str) = true
  | [] => rfl
  | z :: zs => by simp only [List.map_cons, offAll, offD, off_strs zs, Bool.and_self]
theorem off_prs : ∀ ps : List (Str × Str), offAll (ps.map prD) = true
  | [] => rfl
  | p :: ps => by simp only [List.map_cons, offAll, offD, prD, off_prs ps, Bool.and_self]
/-! the parts of a drawn frame -/
def W16 : List Str := ["a", "b", "i", "j", "n", "m", "x", "k", "kk", "all", "not", "pos", "or", "rowrowro", "wa", "zz"]
structure GoodP (ps : List (Str × Str)) (qs rs : List Str) : Prop where
  l1 : ps.length ≤ 3
  l2 : qs.length ≤ 3
  l3 : rs.length ≤ 3
  m1 : ∀ p ∈ ps, p.1 ∈ W16 ∧ p.2 ∈ W16
  m2 : ∀ z ∈ qs, z ∈ W16
  m3 : ∀ z ∈ rs, z ∈ W16
  nd : (wordsOf ps qs rs).Nodup
theorem onceS_mem (zs : List Str) : ∀ z ∈ onceS zs, z ∈ zs := by
  have go : ∀ (zs acc : List Str), ∀ z ∈ zs.foldl (fun acc z => if z ∈ acc then acc else acc ++ [z]) acc, z ∈ acc ∨ z ∈ zs := fun zs => by
    induction zs with
    | nil => exact fun acc z h => .inl h
    | cons y ys ih =>
      intro acc z h
      rw [List.foldl_cons] at h
      rcases ih _ z h with h | h
      · by_cases m : y ∈ acc
        · rw [if_pos m] at h
          exact .inl h
        · rw [if_neg m] at h
          rcases List.mem_append.mp h with h | h
          · exact .inl h
          · rw [List.mem_singleton] at h
            subst h
            exact .inr List.mem_cons_self
      · exact .inr (List.mem_cons_of_mem _ h)
  intro z h
  rcases go zs [] z h with h | h
  · cases h
  · exact h
theorem onceS_nd (zs : List Str) : (onceS zs).Nodup := by
  have go : ∀ (zs acc : List Str), acc.Nodup → (zs.foldl (fun acc z => if z ∈ acc then acc else acc ++ [z]) acc).Nodup := fun zs => by
    induction zs with
    | nil => exact fun acc h => h
    | cons y ys ih =>
      intro acc h
      rw [List.foldl_cons]
      refine ih _ ?_
      by_cases m : y ∈ acc
      · rw [if_pos m]; exact h
      · rw [if_neg m]
        refine List.nodup_append.mpr ⟨h, List.pairwise_singleton _ _, fun x hx z hz => ?_⟩
        rw [List.mem_singleton] at hz
        subst hz
        exact fun e => m (e ▸ hx)
  exact go zs [] List.nodup_nil
theorem good_of {ws : List Str} {ps : List (Str × Str)} {m k : Nat} (nd : ws.Nodup) (ln : ws.length = 12) (mem : ∀ z ∈ ws, z ∈ W16) (h1 : ps.map (·.1) = ws.take ps.length) (l1 : ps.length ≤ 3) (h2 : ∀ p ∈ ps, p.2 ∈ (ws.drop 3).take 3) (hm : m ≤ 3) (hk : k ≤ 3) :
    GoodP ps ((ws.drop 6).take m) ((ws.drop 9).take k) := by
  have e : ws = ws.take 3 ++ ((ws.drop 3).take 3 ++ ((ws.drop 6).take 3 ++ ws.drop 9)) := by
    have a1 : (ws.drop 6).take 3 ++ ws.drop 9 = ws.drop 6 := by
      have := List.take_append_drop 3 (ws.drop 6)
      rw [List.drop_drop] at this
      exact this
    have a2 : (ws.drop 3).take 3 ++ ws.drop 6 = ws.drop 3 := by
      have := List.take_append_drop 3 (ws.drop 3)
      rw [List.drop_drop] at this
      exact this
    rw [a1, a2, List.take_append_drop]
  have nd2 := nd
  rw [e] at nd2
  obtain ⟨n1, n234, x1⟩ := List.nodup_append.mp nd2
  obtain ⟨n2, n34, x2⟩ := List.nodup_append.mp n234
  obtain ⟨n3, n4, x3⟩ := List.nodup_append.mp n34
  have s1 : ∀ z ∈ ps.map (·.1), z ∈ ws.take 3 := fun z hz => by
    rw [h1] at hz
    exact (List.take_subset_take_left ws l1) hz
  have s2 : ∀ z ∈ lensOf ps, z ∈ (ws.drop 3).take 3 := fun z hz => by
    have := onceS_mem _ z hz
    obtain ⟨p, hp, rfl⟩ := List.mem_map.mp this
    exact h2 p hp
  have s3 : ∀ z ∈ (ws.drop 6).take m, z ∈ (ws.drop 6).take 3 := fun z hz => (List.take_subset_take_left _ hm) hz
  have s4 : ∀ z ∈ (ws.drop 9).take k, z ∈ ws.drop 9 := fun z hz => List.mem_of_mem_take hz
  refine ⟨l1, by rw [List.length_take]; omega, by rw [List.length_take]; omega, fun p hp => ⟨mem _ (List.mem_of_mem_take (s1 _ (List.mem_map.mpr ⟨p, hp, rfl⟩))), mem _ (List.mem_of_mem_drop (List.mem_of_mem_take (h2 p hp)))⟩, fun z hz => mem _ (List.mem_of_mem_drop (List.mem_of_mem_take hz)), fun z hz => mem _ (List.mem_of_mem_drop (List.mem_of_mem_take hz)), ?_⟩
  unfold wordsOf
  refine List.nodup_append.mpr ⟨?_, List.nodup_append.mpr ⟨onceS_nd _, List.nodup_append.mpr ⟨List.Sublist.nodup (List.take_sublist _ _) (List.Sublist.nodup (List.drop_sublist _ _) nd), List.Sublist.nodup (List.take_sublist _ _) n4, fun y hy z hz => x3 y (s3 y hy) z (s4 z hz)⟩, fun y hy z hz => ?_⟩, fun y hy z hz => ?_⟩
  · rw [h1]
    exact List.Sublist.nodup (List.take_sublist _ _) nd
  · refine x2 y (s2 y hy) z ?_
    rcases List.mem_append.mp hz with hz | hz
    · exact List.mem_append_left _ (s3 z hz)
    · exact List.mem_append_right _ (s4 z hz)
  · refine x1 y (s1 y hy) z ?_
    rcases List.mem_append.mp hz with hz | hz
    · exact List.mem_append_left _ (s2 z hz)
    · refine List.mem_append_right _ ?_
      rcases List.mem_append.mp hz with hz | hz
      · exact List.mem_append_left _ (s3 z hz)
      · exact List.mem_append_right _ (s4 z hz)
theorem W16_nd : W16.Nodup := by decide +kernel
theorem W16_nm : ∀ z ∈ W16, nameS z = true := by decide +kernel
end K03

set_option autoImplicit false
set_option maxRecDepth 100000
set_option maxHeartbeats 4000000
namespace K03
open PySem PySem.Spec PyProof.Rows L2 KX
abbrev sPts : Stmt := topS 51
abbrev nPts : List Str := ["_law_creel_here", "_law_words", "_law_arrays", "_law_at"]
theorem scPts : FnScope nPts ["_law_creel_here"] (defScope sPts) := ⟨rfl, rfl, rfl, by decide +kernel, rfl, by decide +kernel, by decide +kernel⟩
def spPts : Sp := fun vs H Q _ => ∃ (a : Addr) (x y c : Int), vs = [.ref a] ∧ H a = some (.lst [.int x, .int y, .int c]) ∧ Cr x y c ∧ c ≤ 800000 ∧
  ∀ (l : Addr) (v1 v2 v3 : V) (ps : List (Str × Str)) (qs rs : List Str) (x' c' : Int) (H' : Hp), GoodP ps qs rs → Arr H' v1 ps → Txts H' v2 qs → Txts H' v3 rs → Cr x' y c' → c' ≤ c + 20 → H' a = some (.lst [.int x', .int y, .int c']) → Grw a H H' → l ≠ a → H' l = some (.lst [v1, v2, v3]) → Q (.ref l) H'
theorem ShwAll.keepT {H H' : Hp} (g : ∀ b ys, H b = some (.tup ys) → H' b = some (.tup ys)) : ∀ (ps : List (Str × Str)) {xs : List V}, ShwAll H xs (ps.map prD) → ShwAll H' xs (ps.map prD)
  | [], _, h => by
    cases h
    exact .nil
  | p :: ps, _, h => by
    rw [List.map_cons] at h ⊢
    cases h with
    | cons h1 h2 =>
      refine .cons ?_ (ShwAll.keepT g ps h2)
      cases h1 with
      | tup e r =>
        refine .tup (g _ _ e) ?_
        cases r with
        | cons r1 r2 =>
          cases r1
          cases r2 with
          | cons r3 r4 =>
            cases r3
            cases r4
            exact .cons (.str _) (.cons (.str _) .nil)
section
variable {P : Program} {w : World} {K : PySem.W.Frag} {mg : Str → Option Value} {base : Heap}
theorem ok_pts {f : Addr} {fd : FuncData} (F : Fun K "_law_parts" "_law_parts" sPts f fd) (Fe : Fnc P w K mg base CX0 2 "_law_few_of" ["_law_creel_here", "_law_items", "_law_count"] spFew) (Fi : Fnc P w K mg base CX0 1 "_law_fish" ["_law_creel_here", "_law_total"] spFish) (B : Free mg) : FnOk P w K mg base CX0 3 f fd ["_law_creel_here"] spPts := by
  refine F.ok scPts (fun vs H Q E h => ?_) (fun cdv A outer s H vs Q E hr h => ?_)
  · obtain ⟨a, x, y, c, rfl, _⟩ := h
    rfl
  · obtain ⟨a, x, y, c, rfl, ha, C, hc, q⟩ := h
    refine ⟨_, pss_cons (ps_set (i := 1) scPts.nd rfl (.inl rfl) (pe_lst (pa_cons pe_str (pa_cons pe_str (pa_cons pe_str (pa_cons pe_str (pa_cons pe_str (pa_cons pe_str (pa_cons pe_str (pa_cons pe_str (pa_cons pe_str (pa_cons pe_str (pa_cons pe_str (pa_cons pe_str (pa_cons pe_str (pa_cons pe_str (pa_cons pe_str (pa_cons pe_str pa_nil))))))))))))))))))
      (pss_cons (ps_par (i := 1) (j := 2) rfl scPts.nd rfl rfl (by decide) rfl rfl (pa_cons (pe_fnc Fe hr (by omega) (by rfl) pass0 (pa_cons (pv 0) (pa_cons (pv 1) (pa_cons pe_int pa_nil)))) (pa_cons (pe_lst pa_nil) pa_nil)) (by rfl))
      (pss_cons (ps_for PassesOwn.never rfl (pi_range1 (by rfl) B.range (pa_cons (pe_fnc Fi hr (by omega) (by rfl) pass0 (pa_cons (pv 0) (pa_cons pe_int pa_nil))) pa_nil)) (pg_name (i := 3) scPts.nd rfl (Or.inl rfl))
        (pss_one (ps_expr (pe_bm PySem.F.plainAttrs_list PySem.F.slot_list_append PySem.F.type_list_append mt_append (pv 2) (pa_cons (pe_tup (pa_cons (pe_ix ix_list (pv 1) (pv 3) (fun _ _ => rfl))
          (pa_cons (pe_ix ix_list (pv 1) (pe_op op_add pe_int (pe_fnc Fi hr (by omega) (by rfl) pass0 (pa_cons (pv 0) (pa_cons pe_int pa_nil)))) (fun _ _ => rfl)) pa_nil))) pa_nil)))))
      (pss_one (ps_ret (pe_lst (pa_cons (pe_callTy call_tuple_of (by rfl) B.tuple (by decide +kernel) (pa_cons (pv 2) pa_nil))
        (pa_cons (pe_callTy call_tuple_of (by rfl) B.tuple (by decide +kernel) (pa_cons (pe_slice sl_list (pv 1) (po_some pe_int) (po_some (pe_op op_add pe_int (pe_fnc Fi hr (by omega) (by rfl) pass0 (pa_cons (pv 0) (pa_cons pe_int pa_nil)))))) pa_nil))
        (pa_cons (pe_callTy call_tuple_of (by rfl) B.tuple (by decide +kernel) (pa_cons (pe_slice sl_list (pv 1) (po_some pe_int) (po_some (pe_op op_add pe_int (pe_fnc Fi hr (by omega) (by rfl) pass0 (pa_cons (pv 0) (pa_cons pe_int pa_nil)))))) pa_nil)) pa_nil)))))))), ?_⟩
    refine ⟨(by rw [sizeLine_eq]; show 16 ≤ _; decide), fun W nW => ?_⟩
    show tSeq _ _ _ [some (.ref a), some (.ref W), none, none] (upd H W (.lst (W16.map V.str)))
    have Wa : W ≠ a := (ne_of_none ha nW).symm
    have sW := same_upd (p := W) (o := .lst (W16.map V.str)) nW
    refine ⟨.ref a, rfl, .ref W, rfl, a, W, x, y, c, W16, 12, rfl, Wa, sW _ _ ha, C, by omega, upd_same, by decide, by decide, fun l ws ls x1 c1 H1 lw pm C1 e1 ha1 g1 nl d1 => ?_⟩
    refine ⟨(by rw [sizeLine_eq]; decide), fun Ar nA => ⟨_, _, rfl, ?_⟩⟩
    have Aa : Ar ≠ a := (ne_of_none ha1 nA).symm
    have Al : Ar ≠ l := (ne_of_none d1 nA).symm
    have sA := same_upd (p := Ar) (o := .lst []) nA
    have g2 : Grw a H (upd H1 Ar (.lst [])) := (((Grw.of sW).trans g1).trans (Grw.of sA))
    have ha2 := sA _ _ ha1
    have d2 := sA _ _ d1
    have dA : (upd H1 Ar (.lst [])) Ar = some (.lst []) := upd_same
    have nAH : H Ar = none := by
      cases e : H Ar with
      | none => rfl
      | some o =>
        have := (((Grw.of sW).trans g1) Ar o Aa e)
        rw [nA] at this
        cases this
    generalize upd H1 Ar (.lst []) = H2 at g2 ha2 d2 dA ⊢
    refine ⟨.ref a, rfl, a, x1, y, c1, 4, rfl, ha2, C1, by omega, by omega, by omega, fun k x2 c2 k0 k4 C2 e2 => ?_⟩
    have memW : ∀ z ∈ ws, z ∈ W16 := fun z hz => pm.subset (List.mem_append_left _ hz)
    have ndW : ws.Nodup := (List.nodup_append.mp (pm.nodup_iff.mpr W16_nd)).1
    have ha3 : (upd H2 a (.lst [.int x2, .int y, .int c2])) a = some (.lst [.int x2, .int y, .int c2]) := upd_same
    have d3 : (upd H2 a (.lst [.int x2, .int y, .int c2])) l = some (.lst (ws.map V.str)) := by rw [upd_ne nl]; exact d2
    have dA3 : (upd H2 a (.lst [.int x2, .int y, .int c2])) Ar = some (.lst []) := by rw [upd_ne Aa]; exact dA
    have g3 : Grw a H (upd H2 a (.lst [.int x2, .int y, .int c2])) := g2.trans Grw.upd
    generalize upd H2 a (.lst [.int x2, .int y, .int c2]) = H3 at ha3 d3 dA3 g3 ⊢
    have lnW : ∀ {i : Nat}, i < 12 → ∃ z, ws[i]? = some z := fun {i} hi => ⟨_, List.getElem?_eq_getElem (by rw [lw]; exact hi)⟩
    refine ⟨k, rfl, by omega, by omega, ?_⟩
    refine for_range (fun m σ' H' => ∃ (x' c' : Int) (ps : List (Str × Str)) (xs : List V) (t : Option V), σ' = [some (.ref a), some (.ref l), some (.ref Ar), t] ∧ H' a = some (.lst [.int x', .int y, .int c']) ∧ Cr x' y c' ∧ c' ≤ c2 + m ∧ H' l = some (.lst (ws.map V.str)) ∧ H' Ar = some (.lst xs) ∧ ShwAll H' xs (ps.map prD) ∧ ps.length = m ∧ ps.map (·.1) = ws.take m ∧ (∀ p ∈ ps, p.2 ∈ (ws.drop 3).take 3) ∧ Grw a H H')
      ⟨x2, c2, [], [], none, rfl, ha3, C2, by omega, d3, dA3, .nil, rfl, rfl, (fun p hp => nomatch hp), g3⟩ (fun m σ' H' hm hP => ?_) (fun σ' H' hP => ?_)
    · obtain ⟨x', c', ps, xs, t, rfl, ha', C', hc', dl, dAr, sx, lp, e1p, e2p, gw⟩ := hP
      have hm3 : m < 4 := by omega
      obtain ⟨z1, hz1⟩ := lnW (i := m) (by omega)
      have em : (0 : Int) + (m : Nat) = ((m : Nat) : Int) := by omega
      rw [em]
      refine ⟨.ref Ar, rfl, .inl ⟨rfl, _, SqL.of dAr⟩, .ref l, rfl, .int m, rfl, l, _, _, .str z1, rfl, rfl, SqL.of dl, atI_nat (by rw [List.getElem?_map, hz1]; rfl), ?_⟩
      refine ⟨.ref l, rfl, .ref a, rfl, a, x', y, c', 2, rfl, ha', C', by omega, by omega, by omega, fun r x3 c3 r0 r2 C3 e3 => ?_⟩
      have hr5 : (3 + r.toNat) < 12 := by omega
      obtain ⟨z2, hz2⟩ := lnW hr5
      have er : (3 : Int) + r = ((3 + r.toNat : Nat) : Int) := by omega
      have ha5 : (upd H' a (.lst [.int x3, .int y, .int c3])) a = some (.lst [.int x3, .int y, .int c3]) := upd_same
      have d5 : (upd H' a (.lst [.int x3, .int y, .int c3])) l = some (.lst (ws.map V.str)) := by rw [upd_ne nl]; exact dl
      have dA5 : (upd H' a (.lst [.int x3, .int y, .int c3])) Ar = some (.lst xs) := by rw [upd_ne Aa]; exact dAr
      have g5 : Grw a H (upd H' a (.lst [.int x3, .int y, .int c3])) := gw.trans Grw.upd
      have sx5 := ShwAll.off ha' (Grw.upd (o := .lst [.int x3, .int y, .int c3])) (off_prs ps) sx
      generalize upd H' a (.lst [.int x3, .int y, .int c3]) = H5 at ha5 d5 dA5 g5 sx5 ⊢
      refine ⟨3, r, rfl, rfl, l, _, 3 + r, .str z2, rfl, rfl, SqL.of d5, by rw [er]; exact atI_nat (by rw [List.getElem?_map, hz2]; rfl), (by rw [sizeLine_eq]; show 2 ≤ _; decide), fun T nT => ?_⟩
      have sT := same_upd (p := T) (o := .tup [.str z1, .str z2]) nT
      have lx := ShwAll.len sx5
      rw [List.length_map] at lx
      have Ta := ne_of_none dA5 nT
      refine ⟨Ar, xs, .ref T, rfl, rfl, sT _ _ dA5, by rw [sizeLine_eq]; omega, ?_⟩
      have gA : ∀ b o, b ≠ Ar → (upd H5 T (.tup [.str z1, .str z2])) b = some o → (upd (upd H5 T (.tup [.str z1, .str z2])) Ar (.lst (xs ++ [.ref T]))) b = some o := fun b o n e => by rw [upd_ne n]; exact e
      have shT : ShwAll (upd (upd H5 T (.tup [.str z1, .str z2])) Ar (.lst (xs ++ [.ref T]))) (xs ++ [.ref T]) ((ps ++ [(z1, z2)]).map prD) := by
        rw [List.map_append]
        refine ShwAll.snoc ?_ ?_
        · have q1 := ShwAll.same sx5 sT
          exact (ShwAll.keepT (fun b ys e => gA b _ (fun z => by rw [z, sT _ _ dA5] at e; cases e) e) ps q1)
        · exact .tup (by rw [upd_ne Ta.symm, upd_same]) (.cons (.str _) (.cons (.str _) .nil))
      refine ⟨x3, c3, ps ++ [(z1, z2)], xs ++ [.ref T], _, rfl, ?_, C3, by omega, ?_, upd_same, shT, by rw [List.length_append, lp]; rfl, ?_, ?_, fun b o nb e => ?_⟩
      · rw [upd_ne (Ne.symm Aa), sT _ _ ha5]
      · rw [upd_ne (Ne.symm Al), sT _ _ d5]
      · rw [List.map_append, e1p, List.take_add_one, hz1]
        rfl
      · intro p hp
        rcases List.mem_append.mp hp with hp | hp
        · exact e2p p hp
        · rw [List.mem_singleton] at hp
          subst hp
          refine List.mem_of_getElem? (i := r.toNat) ?_
          rw [List.getElem?_take, if_pos (by omega), List.getElem?_drop]
          exact hz2
      · have := sT _ _ (g5 b o nb e)
        rw [upd_ne (fun z => by rw [z, nAH] at e; cases e)]
        exact this
    · obtain ⟨x', c', ps, xs, t, rfl, ha', C', hc', dl, dAr, sx, lp, e1p, e2p, gw⟩ := hP
      refine ⟨.ref Ar, rfl, Ar, xs, rfl, .inl ⟨SqL.of dAr, fun t1 n1 => ?_⟩⟩
      have s1 := same_upd (p := t1) (o := .tup xs) n1
      have y1 : Arr (upd H' t1 (.tup xs)) (.ref t1) ps := .tup upd_same (ShwAll.same sx s1)
      have ha6 := s1 _ _ ha'
      have d6 := s1 _ _ dl
      have g6 := gw.trans (Grw.of s1)
      generalize upd H' t1 (.tup xs) = H6 at y1 ha6 d6 g6 ⊢
      refine ⟨.ref l, rfl, 6, rfl, .ref a, rfl, a, x', y, c', 4, rfl, ha6, C', by omega, by omega, by omega, fun r4 x4 c4 r40 r44 C4 e4 => ⟨6, r4, rfl, rfl, 6 + r4, rfl, ?_⟩⟩
      have ha7 : (upd H6 a (.lst [.int x4, .int y, .int c4])) a = some (.lst [.int x4, .int y, .int c4]) := upd_same
      have d7 : (upd H6 a (.lst [.int x4, .int y, .int c4])) l = some (.lst (ws.map V.str)) := by rw [upd_ne nl]; exact d6
      have g67 : Grw a H6 (upd H6 a (.lst [.int x4, .int y, .int c4])) := Grw.upd
      have g7 := g6.trans g67
      have y7 : Arr (upd H6 a (.lst [.int x4, .int y, .int c4])) (.ref t1) ps := Shw.off ha6 g67 (by simp only [offD, off_prs]) y1
      generalize upd H6 a (.lst [.int x4, .int y, .int c4]) = H7 at ha7 d7 g7 y7 ⊢
      refine ⟨l, _, rfl, SqL.of d7, fun p2 n2 => ⟨p2, _, rfl, .inl ⟨SqL.of upd_same, fun t2 n3 => ?_⟩⟩⟩
      have cut : ∀ (o : Nat) (r : Int), 0 ≤ r → r < 4 → o + 3 ≤ 12 → cutV (ws.map V.str) (some (o : Int)) (some ((o : Int) + r)) = ((ws.drop o).take r.toNat).map V.str := fun o r h0 h4 ho => by
        unfold cutV
        rw [List.length_map, lw]
        have e1 : HT.sIx 12 0 (some (o : Int)) = o := by rw [HT.sIx_nat]; omega
        have e2 : HT.sIx 12 12 (some ((o : Int) + r)) = o + r.toNat := by
          have : (o : Int) + r = ((o + r.toNat : Nat) : Int) := by omega
          rw [this, HT.sIx_nat]
          omega
        rw [e1, e2, ← List.map_drop, ← List.map_take, Nat.add_sub_cancel_left]
      have s2 := (same_upd (p := p2) (o := .lst (cutV (ws.map V.str) (some 6) (some (6 + r4)))) n2).trans (same_upd (p := t2) (o := .tup (cutV (ws.map V.str) (some 6) (some (6 + r4)))) n3)
      have y2 : Txts (upd (upd H7 p2 (.lst (cutV (ws.map V.str) (some 6) (some (6 + r4))))) t2 (.tup (cutV (ws.map V.str) (some 6) (some (6 + r4))))) (.ref t2) ((ws.drop 6).take r4.toNat) := ⟨t2, rfl, by rw [upd_same]; exact congrArg (fun z => some (HO.tup z)) (cut 6 r4 r40 r44 (by decide))⟩
      have ha8 := s2 _ _ ha7
      have d8 := s2 _ _ d7
      have y8 : Arr _ (.ref t1) ps := Shw.same y7 s2
      have g8 := g7.trans (Grw.of s2)
      generalize upd (upd H7 p2 (.lst (cutV (ws.map V.str) (some 6) (some (6 + r4))))) t2 (.tup (cutV (ws.map V.str) (some 6) (some (6 + r4)))) = H8 at y2 ha8 d8 y8 g8 ⊢
      refine ⟨.ref l, rfl, 9, rfl, .ref a, rfl, a, x4, y, c4, 4, rfl, ha8, C4, by omega, by omega, by omega, fun r5 x5 c5 r50 r54 C5 e5 => ⟨9, r5, rfl, rfl, 9 + r5, rfl, ?_⟩⟩
      have ha9 : (upd H8 a (.lst [.int x5, .int y, .int c5])) a = some (.lst [.int x5, .int y, .int c5]) := upd_same
      have d9 : (upd H8 a (.lst [.int x5, .int y, .int c5])) l = some (.lst (ws.map V.str)) := by rw [upd_ne nl]; exact d8
      have g89 : Grw a H8 (upd H8 a (.lst [.int x5, .int y, .int c5])) := Grw.upd
      have g9 := g8.trans g89
      have y9 : Arr (upd H8 a (.lst [.int x5, .int y, .int c5])) (.ref t1) ps := Shw.off ha8 g89 (by simp only [offD, off_prs]) y8
      have z9 : Txts (upd H8 a (.lst [.int x5, .int y, .int c5])) (.ref t2) ((ws.drop 6).take r4.toNat) := by
        obtain ⟨b, e, h⟩ := y2
        exact ⟨b, e, g89 _ _ (tup_ne ha8 h) h⟩
      generalize upd H8 a (.lst [.int x5, .int y, .int c5]) = H9 at ha9 d9 g9 y9 z9 ⊢
      refine ⟨l, _, rfl, SqL.of d9, fun p3 n4 => ⟨p3, _, rfl, .inl ⟨SqL.of upd_same, fun t3 n5 => ?_⟩⟩⟩
      have s3 := (same_upd (p := p3) (o := .lst (cutV (ws.map V.str) (some 9) (some (9 + r5)))) n4).trans (same_upd (p := t3) (o := .tup (cutV (ws.map V.str) (some 9) (some (9 + r5)))) n5)
      have y3 : Txts (upd (upd H9 p3 (.lst (cutV (ws.map V.str) (some 9) (some (9 + r5))))) t3 (.tup (cutV (ws.map V.str) (some 9) (some (9 + r5))))) (.ref t3) ((ws.drop 9).take r5.toNat) := ⟨t3, rfl, by rw [upd_same]; exact congrArg (fun z => some (HO.tup z)) (cut 9 r5 r50 r54 (by decide))⟩
      have ha10 := s3 _ _ ha9
      have y10 : Arr _ (.ref t1) ps := Shw.same y9 s3
      have z10 : Txts _ (.ref t2) _ := Txts.same z9 s3
      have g10 := g9.trans (Grw.of s3)
      generalize upd (upd H9 p3 (.lst (cutV (ws.map V.str) (some 9) (some (9 + r5))))) t3 (.tup (cutV (ws.map V.str) (some 9) (some (9 + r5)))) = H10 at y3 ha10 y10 z10 g10 ⊢
      refine ⟨(by rw [sizeLine_eq]; show 3 ≤ _; decide), fun L nL => ?_⟩
      have s4 := same_upd (p := L) (o := .lst [.ref t1, .ref t2, .ref t3]) nL
      exact q L _ _ _ ps _ _ x5 c5 _ (good_of ndW lw memW (by rw [e1p, lp]) (by omega) e2p (by omega) (by omega)) (Shw.same y10 s4) (Txts.same z10 s4) (Txts.same y3 s4) C5 (by omega) (s4 _ _ ha10) (g10.trans (Grw.of s4)) (ne_of_none ha10 nL).symm upd_same
end
end K03

set_option autoImplicit false
set_option maxRecDepth 100000
set_option maxHeartbeats 4000000
namespace K03
open PySem PySem.Spec PyProof.Rows L2 KX
/-- a tuple of names, of any length -/
def areN : PyData → Bool
  | .tuple ds => ds.all isNm
  | _ => false
def isStrP : PyData → Bool
  | .str _ => true
  | _ => false
/-- what is in a tuple has no dict and is not deep -/
def lowIn : PyData → Prop
  | .tuple ds => ∀ d ∈ ds, lowD d
  | _ => True
def badN : PyData → Bool
  | .str z => !nameS z
  | _ => true
theorem filter_all (T : PyData → Bool) (ds : List PyData) : (ds.filter T).isEmpty = ds.all fun d => !T d := by
  induction ds with
  | nil => rfl
  | cons d ds ih =>
    rw [List.filter_cons, List.all_cons, ← ih]
    cases T d <;> rfl
theorem name_split (z : Str) : (!nameS z) = ((!decide (0 < (z.length : Int) ∧ (z.length : Int) < 9)) || !decide (Txt.stripChars z "abcdefghijklmnopqrstuvwxyz" = "")) := by
  rw [strip_letters]
  unfold nameS
  rw [Bool.not_and]
  congr 1
  exact congrArg _ (decide_eq_decide.mpr (by omega))
section
variable {P : Program} {w : World} {K : PySem.W.Frag} {mg : Str → Option Value} {base : Heap}
theorem kit_strP (d : PyData) : kitB (tyD d) "str" = some (isStrP d) := by
  have a : (["NoneType", "bool", "int", "tuple", "list", "dict"].all fun t => kitB t "str" == some false) = true := by decide +kernel
  have b := fun t h => beq_iff_eq.mp (List.all_eq_true.mp a t h)
  cases d with
  | str ds => show kitB "str" "str" = some true; decide +kernel
  | none => exact b "NoneType" (by simp)
  | bool _ => exact b "bool" (by simp)
  | int _ => exact b "int" (by simp)
  | tuple _ => exact b "tuple" (by simp)
  | list _ => exact b "list" (by simp)
  | dict _ => exact b "dict" (by simp)
theorem low_in {d : PyData} (h : lowD d) : lowIn d := by
  cases d with
  | tuple ds =>
    obtain ⟨h1, h2⟩ := h
    have a : PyData.canLayAll0 ds = true := by simpa only [PyData.canLay0] using h1
    have b : PyData.depthAll ds ≤ 20 := by
      simp only [PyData.depth] at h2
      omega
    clear h1 h2
    show ∀ d ∈ ds, lowD d
    induction ds with
    | nil => exact fun d hd => nomatch hd
    | cons y ys ih =>
      simp only [PyData.canLayAll0, Bool.and_eq_true] at a
      simp only [PyData.depthAll] at b
      intro d hd
      rcases List.mem_cons.mp hd with rfl | hd
      · exact ⟨a.1, by omega⟩
      · exact ih a.2 (by omega) d hd
  | _ => exact True.intro
end
end K03

set_option autoImplicit false
set_option maxRecDepth 100000
set_option maxHeartbeats 4000000
namespace K03
open PySem PySem.Spec PyProof.Rows L2 KX
/-! small data: few items, texts out of a list -/
def LX0 : List Str := ["", "A", "ninelette", "*1", "a b", "new", "other", "ab", "one", "two"]
def LX1 : List Str := ["three", "wb", "wc", "wd", "we", "wf", "wg", "wh", "wi", "wj", "wk", "wl"]
def LX2 : List Str := ["wm", "wn", "wo", "wp", "c", "d", "e", "f", "g", "h", "l"]
def LW : List Str := W16 ++ (LX0 ++ (LX1 ++ (LX2)))
def sm : Nat → PyData → Bool
  | _, .none => true
  | _, .bool _ => true
  | _, .int i => decide (i = 0)
  | _, .str z => decide (z ∈ LW)
  | 0, .tuple _ => false
  | 0, .list _ => false
  | k + 1, .tuple ds => decide (ds.length ≤ 13) && ds.all (sm k)
  | k + 1, .list ds => decide (ds.length ≤ 13) && (!headInt ds && ds.all (sm k))
  | _, .dict _ => false
theorem sm_up : ∀ (k : Nat) (d : PyData), sm k d = true → sm (k + 1) d = true
  | k, .none, _ => by cases k <;> rfl
  | k, .bool b, _ => by cases k <;> rfl
  | k, .int i, h => by cases k <;> exact h
  | k, .str z, h => by cases k <;> exact h
  | 0, .tuple _, h => by cases h
  | 0, .list _, h => by cases h
  | k + 1, .tuple ds, h => by
    simp only [sm, Bool.and_eq_true] at h
    obtain ⟨h1, h2⟩ := h
    show (decide (ds.length ≤ 13) && ds.all (sm (k + 1))) = true
    rw [h1, Bool.true_and]
    exact List.all_eq_true.mpr fun d hd => sm_up k d (List.all_eq_true.mp h2 d hd)
  | k + 1, .list ds, h => by
    simp only [sm, Bool.and_eq_true] at h
    obtain ⟨h1, h2, h3⟩ := h
    show (decide (ds.length ≤ 13) && (!headInt ds && ds.all (sm (k + 1)))) = true
    rw [h1, h2, Bool.true_and, Bool.true_and]
    exact List.all_eq_true.mpr fun d hd => sm_up k d (List.all_eq_true.mp h3 d hd)
  | k, .dict _, h => by cases k <;> cases h
theorem sm_le {k n : Nat} {d : PyData} (h : sm k d = true) (l : k ≤ n) : sm n d = true := by
  induction l with
  | refl => exact h
  | step _ ih => exact sm_up _ _ ih
theorem LW_ok : ∀ z ∈ LW, z.length ≤ 9 ∧ (z.cps.toList.all fun c => decide (c < 0x110000)) = true ∧ PyData.strOk z = true ∧ (PyData.str z).shown.length ≤ 13 := by
  have h : (LW.all fun z => decide (z.length ≤ 9) && ((z.cps.toList.all fun c => decide (c < 0x110000)) && (PyData.strOk z && decide ((PyData.str z).shown.length ≤ 13)))) = true := by decide +kernel
  intro z hz
  have := List.all_eq_true.mp h z hz
  simp only [Bool.and_eq_true, decide_eq_true_eq] at this
  exact this
theorem gdAll_of {xs : List PyData} (h : ∀ x ∈ xs, gd x = true) : gdAll xs = true := by
  induction xs with
  | nil => rfl
  | cons x xs ih => simp only [gdAll, h x List.mem_cons_self, ih fun y hy => h y (List.mem_cons_of_mem _ hy), Bool.and_self]
theorem showableAll_of {xs : List PyData} (h : ∀ x ∈ xs, PyData.showable x = true) : PyData.showableAll xs = true := by
  induction xs with
  | nil => rfl
  | cons x xs ih => simp only [PyData.showableAll, h x List.mem_cons_self, ih fun y hy => h y (List.mem_cons_of_mem _ hy), Bool.and_self]
theorem sum_le {l : List Nat} {B : Nat} (h : ∀ x ∈ l, x ≤ B) : l.sum ≤ l.length * B := by
  induction l with
  | nil => simp
  | cons x l ih =>
    have h1 := h x List.mem_cons_self
    have h2 := ih fun y hy => h y (List.mem_cons_of_mem _ hy)
    rw [List.sum_cons, List.length_cons, Nat.succ_mul]
    omega
theorem shown_sum {B : Nat} {ds : List PyData} (n : ds.length ≤ 13) (h : ∀ d ∈ ds, d.shown.length ≤ B) : ((PyData.shownAll ds).map (·.length)).sum + 2 * (PyData.shownAll ds).length + 3 ≤ 13 * B + 29 := by
  have e := PyData.shownAll_length ds
  have mem : ∀ (ds : List PyData), (∀ d ∈ ds, d.shown.length ≤ B) → ∀ t ∈ PyData.shownAll ds, t.length ≤ B := fun ds => by
    induction ds with
    | nil => intro _ t ht; simp [PyData.shownAll] at ht
    | cons d ds ih =>
      intro h t ht
      simp only [PyData.shownAll, List.mem_cons] at ht
      rcases ht with rfl | ht
      · exact h d List.mem_cons_self
      · exact ih (fun y hy => h y (List.mem_cons_of_mem _ hy)) t ht
  have z := sum_le (l := (PyData.shownAll ds).map (·.length)) (B := B) fun x hx => by
    obtain ⟨t, ht, rfl⟩ := List.mem_map.mp hx
    exact mem ds h t ht
  rw [List.length_map, e] at z
  have : ds.length * B ≤ 13 * B := Nat.mul_le_mul_right _ n
  omega
def shB : Nat → Nat
  | 0 => 13
  | k + 1 => 13 * shB k + 29
structure SmOk (k : Nat) (d : PyData) : Prop where
  g : gd d = true
  lay : PyData.canLay0 d = true
  dep : PyData.depth d ≤ k
  off : offD d = true
  show_ : PyData.showable d = true
  len : d.shown.length ≤ shB k
  few : lenD d ≤ 13
theorem shB_ge (k : Nat) : 13 ≤ shB k := by
  cases k with
  | zero => exact Nat.le_refl _
  | succ k => show 13 ≤ 13 * shB k + 29; omega
theorem sm_ok : ∀ (k : Nat) (d : PyData), sm k d = true → SmOk k d
  | k, .none, _ => ⟨rfl, rfl, Nat.zero_le _, rfl, rfl, Nat.le_trans (by decide +kernel) (shB_ge k), Nat.zero_le _⟩
  | k, .bool b, _ => ⟨rfl, rfl, Nat.zero_le _, rfl, rfl, Nat.le_trans (by cases b <;> decide +kernel) (shB_ge k), Nat.zero_le _⟩
  | k, .int i, h => by
    have e : i = 0 := by cases k <;> exact of_decide_eq_true h
    subst e
    exact ⟨rfl, rfl, Nat.zero_le _, rfl, by decide +kernel, Nat.le_trans (by decide +kernel) (shB_ge k), Nat.zero_le _⟩
  | k, .str z, h => by
    have e : z ∈ LW := by cases k <;> exact of_decide_eq_true h
    obtain ⟨h1, h2, h3, h4⟩ := LW_ok z e
    refine ⟨?_, h3, Nat.zero_le _, rfl, rfl, Nat.le_trans h4 (shB_ge k), Nat.zero_le _⟩
    simp only [gd, h2, Bool.and_true]
    exact decide_eq_true (by omega)
  | 0, .tuple _, h => by cases h
  | 0, .list _, h => by cases h
  | k + 1, .tuple ds, h => by
    simp only [sm, Bool.and_eq_true, decide_eq_true_eq] at h
    obtain ⟨h1, h2⟩ := h
    have ih := fun d hd => sm_ok k d (List.all_eq_true.mp h2 d hd)
    refine ⟨?_, ?_, ?_, ?_, ?_, ?_, h1⟩
    · simp only [gd, gdAll_of fun d hd => (ih d hd).g, Bool.and_true]
      exact decide_eq_true (by omega)
    · simp only [PyData.canLay0]
      exact lay_all fun d hd => (ih d hd).lay
    · have := depth_all fun d hd => (ih d hd).dep
      simp only [PyData.depth]
      omega
    · simp only [offD]
      exact offAll_mem fun d hd => (ih d hd).off
    · simp only [PyData.showable]
      exact showableAll_of fun d hd => (ih d hd).show_
    · simp only [PyData.shown]
      exact Nat.le_trans (tupleText_len_le _) (shown_sum h1 fun d hd => (ih d hd).len)
  | k + 1, .list ds, h => by
    simp only [sm, Bool.and_eq_true, decide_eq_true_eq] at h
    obtain ⟨h1, h3, h2⟩ := h
    have ih := fun d hd => sm_ok k d (List.all_eq_true.mp h2 d hd)
    refine ⟨?_, ?_, ?_, ?_, ?_, ?_, Nat.zero_le _⟩
    · simp only [gd, gdAll_of fun d hd => (ih d hd).g, Bool.and_true]
      exact decide_eq_true (by omega)
    · simp only [PyData.canLay0]
      exact lay_all fun d hd => (ih d hd).lay
    · have := depth_all fun d hd => (ih d hd).dep
      simp only [PyData.depth]
      omega
    · simp only [offD, h3, Bool.true_and]
      exact offAll_mem fun d hd => (ih d hd).off
    · simp only [PyData.showable]
      exact showableAll_of fun d hd => (ih d hd).show_
    · simp only [PyData.shown]
      exact Nat.le_trans (listText_len_le _) (shown_sum h1 fun d hd => (ih d hd).len)
  | k, .dict _, h => by cases k <;> cases h
/-- a component of what the law judges -/
def comp : PyData → Bool
  | .dict [] => true
  | .dict _ => false
  | d => sm 3 d
structure CompOk (d : PyData) : Prop where
  g : gd d = true
  low : lowIn d
  off : offD d = true
  show_ : PyData.showable d = true
  dep : PyData.depth d ≤ 3
  len : d.shown.length ≤ 40000
  few : lenD d ≤ 13
theorem sm_low {k : Nat} {d : PyData} (hk : k ≤ 20) (h : sm k d = true) : lowD d := by
  have := sm_ok k d h
  exact ⟨this.lay, by have := this.dep; omega⟩
theorem comp_ok {d : PyData} (h : comp d = true) : CompOk d := by
  have go : sm 3 d = true → CompOk d := fun h => by
    have o := sm_ok 3 d h
    exact ⟨o.g, low_in (sm_low (by decide) h), o.off, o.show_, o.dep, Nat.le_trans o.len (by decide), o.few⟩
  cases d with
  | dict kvs =>
    cases kvs with
    | nil => exact ⟨rfl, trivial, rfl, by decide +kernel, by decide +kernel, by decide +kernel, Nat.zero_le _⟩
    | cons a b => cases h
  | _ => exact go h
theorem show_list {ds : List PyData} (n : ds.length ≤ 13) (h : ∀ d ∈ ds, comp d = true) : (PyData.list ds).showable = true ∧ (PyData.list ds).depth ≤ 60 ∧ (PyData.list ds).shown.length ≤ 1000000 := by
  have ih := fun d hd => comp_ok (h d hd)
  refine ⟨?_, ?_, ?_⟩
  · simp only [PyData.showable]
    exact showableAll_of fun d hd => (ih d hd).show_
  · have := depth_all fun d hd => (ih d hd).dep
    simp only [PyData.depth]
    omega
  · simp only [PyData.shown]
    refine Nat.le_trans (listText_len_le _) (Nat.le_trans (shown_sum n fun d hd => (ih d hd).len) (by decide))
end K03

set_option autoImplicit false
set_option maxRecDepth 100000
set_option maxHeartbeats 4000000
namespace K03
open PySem PySem.Spec PyProof.Rows L2 KX
/-- a promise of a def that runs with no repr underway -/
def RunG (P : Program) (w : World) (K : PySem.W.Frag) (mg : Str → Option Value) (base : Heap) (k : Nat) (f : Addr) (fd : FuncData) (ps : List Str) (sp : Sp) : Prop :=
  ∀ (A : Around) (outer : List Env) (s : Shared) (H : Hp) (args : Args) (us : List Value) (vs : List V) (Q : VK) (E : XK), A.guards = some [] → Room k A → Env0 P w K mg base A outer s H → BindsTo s fd args (ps.zip us) → Vals vs us → vs.length = ps.length → sp vs H Q E →
    codeAny (model P w) A (.call (.ref f) args) (CR CX0 outer P w H s Q E) s
theorem Fun.okG {P : Program} {w : World} {K : PySem.W.Frag} {mg : Str → Option Value} {base : Heap} {x qual : Str} {st : Stmt} {f : Addr} {fd : FuncData} {N ps : List Str} {k : Nat} {sp : Sp} (F : Fun K x qual st f fd) (S : FnScope N ps (defScope st))
    (hbody : ∀ (cdv : Value) (A : Around) (outer : List Env) (s : Shared) (H : Hp) (vs : List V) (Q : VK) (E : XK), (A.deeper (envOfC qual (defScope st) s.heap.objs.size f cdv)).guards = some [] → Room k (A.deeper (envOfC qual (defScope st) s.heap.objs.size f cdv)) → sp vs H Q E →
      ∃ t, PSs (cxOf CX0 P w K mg base N qual (defScope st) f cdv A outer s H E).nox (defBody st) t ∧ t { nx := fun _ H' => Q .non H', rt := Q } (L2.start N vs) H) : RunG P w K mg base (k + 1) f fd ps sp := by
  obtain ⟨oc, od, kV, doc, pm, an, cdv, ct, osl, rfl, lk, hcd⟩ := F.ex
  intro A outer s H args us vs Q E hG hr e0 hb r hl hsp
  refine LamX.run_ofS (N := N) lk hcd S hr e0 hb r hl fun hr' => ?_
  obtain ⟨t, h, q⟩ := hbody cdv A outer s H vs Q E hG hr' hsp
  exact ⟨t, h.nox, q⟩
/-- a def of the module with such a promise -/
structure FncG (P : Program) (w : World) (K : PySem.W.Frag) (mg : Str → Option Value) (base : Heap) (k : Nat) (x : Str) (ps : List Str) (sp : Sp) : Prop where
  ex : ∃ (f : Addr) (fd : FuncData), RunG P w K mg base k f fd ps sp ∧ Binds K fd ps [] ∧ mg x = some (.ref f) ∧ PySem.W.keepIn K (.ref f) = true
section
variable {X : Cx} {k j : Nat} {ps : List Str} {sp : Sp} {x : Str} {p pos : Pos} {e : Expr} {es : List Expr} {t : TA}
def tCallG (n : Nat) (sp : Sp) (t : TA) : TE := fun σ H Q => t σ H fun vs H1 => vs.length = n ∧ sp vs H1 Q E0
theorem pe_fncG (F : FncG X.prog X.w X.K X.mg X.base k x ps sp) (hG : X.A.guards = some []) (hr : Room j X.A) (hk : k ≤ j) (hg : Gl X x) (ha : PA X (e :: es) t)
    (hdb : (x == ("__debug__" : Str)) = false := by decide) (he : starEach (e :: es) X.env = (false, eval e X.env) :: starEach es X.env := by rfl) (hpl : (backTo pos (starEach es X.env)).any (·.1) = false := by rfl) :
    PE X (.Call (.Name x p) (e :: es) [] pos) (tCallG ps.length sp t) := by
  obtain ⟨f, fd, F, hb, hm, hk2⟩ := F.ex
  refine ⟨fun pins s σ H Q I h => ?_⟩
  refine wpAny_Call_Name_kw (ld_glob I hg hm ?_ hdb)
  refine PySem.W.callWith_K (h₀ := X.base) I.ok.mod.kin hk2 (thn (ha.run pos pins s σ H _ I h) fun us s1 ⟨vs, H1, I1, r, hl, q⟩ => ⟨I1.kIn, ?_⟩) he hpl
  have bt : BindsTo s1 fd ⟨us, []⟩ (ps.zip us) := by
    have z := hb s1 us I1.kIn (by rw [List.append_nil, ← r.length]; exact hl)
    rw [List.append_nil] at z
    exact z
  refine wpAny_call (codeAny_mono (F X.A X.stack s1 H1 ⟨us, []⟩ us vs Q E0 hG (hr.mono hk) I1.env0 bt r hl q) fun o s' hq => ?_)
  match o, hq with
  | .ok (.ret u), hq => exact I1.after hq
  | .ok .next, hq => exact False.elim hq
  | .ok .brk, hq => exact False.elim hq
  | .ok .cont, hq => exact False.elim hq
  | .error u, hq => exact False.elim hq
theorem ps_imp {st : Stmt} {t u : TS} (h : PS X st t) (i : ∀ D σ H, u D σ H → t D σ H) : PS X st u := ⟨fun pins s σ H D I q => h.run pins s σ H D I (i _ _ _ q)⟩
end
/-- repr(True), repr(False) -/
theorem call_repr_bl {X : Cx} : CallR X (.builtin "repr") (fun xs H Q => ∃ b : Bool, xs = [.bl b] ∧ Q (.str (if b then "True" else "False")) H) := by
  intro pins s σ H vs us Q I r h
  obtain ⟨b, rfl, q⟩ := h
  obtain ⟨u, rfl, rr⟩ := vals1 r
  obtain rfl : u = Value.bool b := rr
  exact PySem.P.repr_of_bool ⟨.str _, H, I.tok _, ⟨_, rfl⟩, q⟩
/-- a property with its promise -/
structure Prp (P : Program) (w : World) (K : PySem.W.Frag) (mg : Str → Option Value) (base : Heap) (C : Addr) (n : Str) (sp : Sp) : Prop where
  ex : ∃ (p g : Addr) (fd : FuncData), PropOf K C n p g ∧ FnOk P w K mg base CX0 1 g fd ["self"] sp ∧ Binds K fd ["self"] []
theorem pe_prp {X : Cx} {C : Addr} {n : Str} {sp : Sp} {j : Nat} {e : Expr} {ta : TE} {pos : Pos} (R : Prp X.prog X.w X.K X.mg X.base C n sp) (he : PE X e ta) (c : Cls X.K C) (hr : Room j X.A) (hk : 2 ≤ j) (hab : attributeBase e n X.env (eval e X.env) = eval e X.env := by rfl) :
    PE X (.Attribute e n pos) (tProp C sp [] E0 ta) := by
  obtain ⟨p, g, fd, hp, F, hb⟩ := R.ex
  exact pe_prop he c hp F (hr.mono hk) hb .nil pass0 hab
end K03

set_option autoImplicit false
set_option maxRecDepth 100000
set_option maxHeartbeats 4000000
namespace K03
open PySem PySem.Spec PyProof.Rows L2 KX
section
variable {K : PySem.W.Frag} {a : Addr} {xs : List V} {g : TG} {tt : TT} {te : TE} {vs : List Nat} {σ : L2.St} {H1 : Hp} {D : Addr} {Qd : Hp → Prop}
/-- a comprehension over a list that keeps none -/
theorem lc_noneL (hx : H1 a = some (.lst xs)) (n : H1 D = none)
    (step : ∀ (i : Nat) (x : V) (H' : Hp) (QY : VK) (QN : Hp → Prop), xs[i]? = some x → Same H1 H' → (∀ H4, Same H' H4 → QN H4) →
      g x (wipe σ vs) H' fun σ2 H2 => wipe σ2 vs = wipe σ vs ∧ tt σ2 H2 fun b H3 => if b = true then te σ2 H3 QY else QN H3)
    (fin : ∀ H', Same H1 H' → H' D = some (.lst []) → Qd H') :
    ∃ W : Nat → Nat → Hp → Prop, (∃ m, W 0 m (upd H1 D (.lst []))) ∧ ∀ i m H, W i m H →
      ((Itl K a).stop i H ∧ Qd H) ∨ ((Itl K a).go i H ∧ ∃ Nx : Hp → Prop, (∀ H', Nx H' → ∃ m', m' < m ∧ W (i + 1) m' H') ∧ ∀ x H', (Itl K a).yld i H x H' → g x (wipe σ vs) H' fun σ2 H2 => wipe σ2 vs = wipe σ vs ∧ tt σ2 H2 fun b H3 =>
        if b = true then te σ2 H3 fun y H4 => ∃ acc, H4 D = some (.lst acc) ∧ acc.length < sizeLine ∧ Nx (upd H4 D (.lst (acc ++ [y]))) else Nx H3) :=
  lc_list (K := K) (a := a) (xs := xs) (fun _ H' => Same H1 H' ∧ H' D = some (.lst [])) ⟨same_upd n, upd_same⟩ (fun i H' _ hP => SqL.of (hP.1 _ _ hx)) (fun i x H' hi hP => step i x H' _ _ hi hP.1 fun H4 s4 => ⟨hP.1.trans s4, s4 _ _ hP.2⟩) (fun H' hP => fin H' hP.1 hP.2)
/-- .. over a tuple -/
theorem lc_noneT (hx : H1 a = some (.tup xs)) (n : H1 D = none)
    (step : ∀ (i : Nat) (x : V) (H' : Hp) (QY : VK) (QN : Hp → Prop), xs[i]? = some x → Same H1 H' → (∀ H4, Same H' H4 → QN H4) →
      g x (wipe σ vs) H' fun σ2 H2 => wipe σ2 vs = wipe σ vs ∧ tt σ2 H2 fun b H3 => if b = true then te σ2 H3 QY else QN H3)
    (fin : ∀ H', Same H1 H' → H' D = some (.lst []) → Qd H') :
    ∃ W : Nat → Nat → Hp → Prop, (∃ m, W 0 m (upd H1 D (.lst []))) ∧ ∀ i m H, W i m H →
      ((Itt K a).stop i H ∧ Qd H) ∨ ((Itt K a).go i H ∧ ∃ Nx : Hp → Prop, (∀ H', Nx H' → ∃ m', m' < m ∧ W (i + 1) m' H') ∧ ∀ x H', (Itt K a).yld i H x H' → g x (wipe σ vs) H' fun σ2 H2 => wipe σ2 vs = wipe σ vs ∧ tt σ2 H2 fun b H3 =>
        if b = true then te σ2 H3 fun y H4 => ∃ acc, H4 D = some (.lst acc) ∧ acc.length < sizeLine ∧ Nx (upd H4 D (.lst (acc ++ [y]))) else Nx H3) :=
  lc_tup (K := K) (a := a) (xs := xs) (fun _ H' => Same H1 H' ∧ H' D = some (.lst [])) ⟨same_upd n, upd_same⟩ (fun i H' _ hP => SqT.of (hP.1 _ _ hx)) (fun i x H' hi hP => step i x H' _ _ hi hP.1 fun H4 s4 => ⟨hP.1.trans s4, s4 _ _ hP.2⟩) (fun H' hP => fin H' hP.1 hP.2)
end
theorem keysK_mem {v : V} {zs : List Str} {z : Str} (h : z ∈ zs) : ((.inr z : Key), v) ∈ keysK v zs := List.mem_map.mpr ⟨z, h, rfl⟩
theorem kinds_at {ps : List (Str × Str)} {qs rs : List Str} (nd : (wordsOf ps qs rs).Nodup) {z : Str} {v : V} (h : ((.inr z : Key), v) ∈ kindsOf ps qs rs) : valV (kindsOf ps qs rs) (.inr z) = some v := by
  refine val_nodup ?_ _ h
  rw [kinds_keys]
  exact List.pairwise_map.mpr (List.Pairwise.imp (fun h e => h (Sum.inr.inj e)) nd)
end K03

set_option autoImplicit false
set_option maxRecDepth 100000
set_option maxHeartbeats 4000000
namespace K03
open PySem PySem.Spec PyProof.Rows L2 KX
open Classical in
/-- all but what is at F, and at the foreign addresses -/
noncomputable def hd (Y : Addr → Prop) (F : Addr) (H : Hp) : Hp := fun b => if b = F ∨ Y b then none else H b
/-- what is left out is there -/
def Fx (Y : Addr → Prop) (F : Addr) (H : Hp) : Prop := ∀ b, b = F ∨ Y b → ∃ o, H b = some o
section
variable {Y : Addr → Prop} {F a p : Addr} {H H' : Hp} {o : HO} {v : V} {d : PyData} {vs : List V} {ds : List PyData}
theorem hd_ne {b : Addr} (n : ¬ (b = F ∨ Y b)) : hd Y F H b = H b := by
  unfold hd
  rw [if_neg n]
theorem hd_in {b : Addr} {o : HO} (e : hd Y F H b = some o) : ¬ (b = F ∨ Y b) := fun h => by
  unfold hd at e
  rw [if_pos h] at e
  cases e
theorem hd_sub : Same (hd Y F H) H := fun b o e => by
  rw [hd_ne (hd_in e)] at e
  exact e
theorem hd_same (s : Same H H') : Same (hd Y F H) (hd Y F H') := fun b o e => by
  have n := hd_in e
  rw [hd_ne n] at e ⊢
  exact s _ _ e
theorem hd_grw (s : Grw a H H') : Grw a (hd Y F H) (hd Y F H') := fun b o ne e => by
  have n := hd_in e
  rw [hd_ne n] at e ⊢
  exact s _ _ ne e
theorem hd_put : Same (hd Y F H) (upd H F o) := fun b o e => by
  have n := hd_in e
  rw [hd_ne n] at e
  rw [upd_ne fun h => n (.inl h)]
  exact e
theorem hd_at (hF : Fx Y F H) (n : H p = none) : ¬ (p = F ∨ Y p) := fun e => by
  obtain ⟨o, h⟩ := hF p e
  rw [h] at n
  cases n
theorem hd_upd (hF : Fx Y F H) (n : H p = none) : hd Y F (upd H p o) p = some o := by
  rw [hd_ne (hd_at hF n), upd_same]
end
def cutA {α : Type} (xs : List α) (lo hi : Option Int) : List α := (xs.drop (HT.sIx xs.length 0 lo)).take (HT.sIx xs.length xs.length hi - HT.sIx xs.length 0 lo)
theorem ShwAll.drop {H : Hp} : ∀ {vs : List V} {ds : List PyData} (n : Nat), ShwAll H vs ds → ShwAll H (vs.drop n) (ds.drop n)
  | _, _, 0, s => by simpa using s
  | _, _, n + 1, .nil => by simpa using ShwAll.nil
  | _, _, n + 1, .cons _ r => by simpa using ShwAll.drop n r
theorem ShwAll.take {H : Hp} : ∀ {vs : List V} {ds : List PyData} (n : Nat), ShwAll H vs ds → ShwAll H (vs.take n) (ds.take n)
  | _, _, 0, s => by simpa using ShwAll.nil
  | _, _, n + 1, .nil => by simpa using ShwAll.nil
  | _, _, n + 1, .cons a r => by
    rw [List.take_succ_cons, List.take_succ_cons]
    exact .cons a (ShwAll.take n r)
theorem ShwAll.rev {H : Hp} : ∀ {vs : List V} {ds : List PyData}, ShwAll H vs ds → ShwAll H vs.reverse ds.reverse
  | _, _, .nil => .nil
  | _, _, .cons a r => by
    rw [List.reverse_cons, List.reverse_cons]
    exact ShwAll.snoc (ShwAll.rev r) a
theorem cut_whole {α : Type} {xs : List α} {lo hi : Option Int} (h : HT.sIx xs.length 0 lo = 0 ∧ HT.sIx xs.length xs.length hi = xs.length) : cutA xs lo hi = xs := by
  unfold cutA
  rw [h.1, h.2, List.drop_zero, Nat.sub_zero, List.take_length]
section
variable {K : PySem.W.Frag} {Y : Addr → Prop} {F : Addr} {H : Hp} {x y : V} {ds es : List PyData} {Q : VK}
theorem tup_get' {H : Hp} {v : V} {ds : List PyData} (s : Shw H v (.tuple ds)) : ∃ (a : Addr) (xs : List V), v = .ref a ∧ H a = some (.tup xs) ∧ ShwAll H xs ds := by
  cases s with
  | tup e r => exact ⟨_, _, rfl, e, r⟩
/-- t + u, by data -/
theorem cat_data (hF : Fx Y F H) (sx : Shw (hd Y F H) x (.tuple ds)) (sy : Shw (hd Y F H) y (.tuple es)) (few : ds.length + es.length ≤ 1000) (q : ∀ v H', Same H H' → Shw (hd Y F H') v (.tuple (ds ++ es)) → Q v H') : rCatA K x y H Q := by
  obtain ⟨a, xs, rfl, e1, r1⟩ := tup_get' sx
  obtain ⟨b, ys, rfl, e2, r2⟩ := tup_get' sy
  have l1 := ShwAll.len r1
  have l2 := ShwAll.len r2
  refine ⟨a, b, xs, ys, rfl, rfl, SqT.of (hd_sub _ _ e1), SqT.of (hd_sub _ _ e2), by rw [sizeLine_eq]; omega, fun h => ?_, fun _ h => ?_, fun _ _ p np => ?_⟩
  · subst h
    cases r1
    exact q _ H (Same.refl H) (by rw [List.nil_append]; exact sy)
  · subst h
    cases r2
    exact q _ H (Same.refl H) (by rw [List.append_nil]; exact sx)
  · have s := same_upd (p := p) (o := .tup (xs ++ ys)) np
    exact q _ _ s (.tup (hd_upd hF np) (ShwAll.same (ShwAll.app r1 r2) (hd_same s)))
/-- t[lo:hi], by data -/
theorem cut_data {lo hi : Option Int} (hF : Fx Y F H) (sx : Shw (hd Y F H) x (.tuple ds)) (q : ∀ v H', Same H H' → Shw (hd Y F H') v (.tuple (cutA ds lo hi)) → Q v H') : rSlA K x lo hi H Q := by
  obtain ⟨a, xs, rfl, e1, r1⟩ := tup_get' sx
  have l1 := ShwAll.len r1
  refine ⟨a, xs, rfl, SqT.of (hd_sub _ _ e1), fun h => ?_, fun _ p np => ?_⟩
  · rw [l1] at h
    exact q _ H (Same.refl H) (by rw [cut_whole h]; exact sx)
  · have s := same_upd (p := p) (o := .tup (cutV xs lo hi)) np
    have r2 : ShwAll (hd Y F H) (cutV xs lo hi) (cutA ds lo hi) := by
      unfold cutV cutA
      rw [l1]
      exact ShwAll.take _ (ShwAll.drop _ r1)
    exact q _ _ s (.tup (hd_upd hF np) (ShwAll.same r2 (hd_same s)))
theorem tup_data {v : V} {d : PyData} (hF : Fx Y F H) (sv : Shw (hd Y F H) v d) {p : Addr} (np : H p = none) : Shw (hd Y F (upd H p (.tup [v]))) (.ref p) (.tuple [d]) :=
  .tup (hd_upd hF np) (.cons (Shw.same sv (hd_same (same_upd np))) .nil)
end
end K03

set_option autoImplicit false
set_option maxRecDepth 100000
set_option maxHeartbeats 4000000
/-! right parts, of the words that the law uses -/
namespace K03
open PySem PySem.Spec PyProof.Rows L2 KX
theorem iteF' {c : Bool} {A B : Prop} (h : c = false) (b : B) : if c = true then A else B := by
  rw [h]
  exact iteF b
theorem iteT' {c : Bool} {A B : Prop} (h : c = true) (b : A) : if c = true then A else B := by
  rw [h]
  exact iteT b
theorem eqv_str_refl (z : Str) : PyData.eqv (.str z) (.str z) = true := by simp [PyData.eqv]
theorem eqvAll_refl {ds : List PyData} (h : ∀ d ∈ ds, PyData.eqv d d = true) : PyData.eqvAll ds ds = true := by
  induction ds with
  | nil => rfl
  | cons d ds ih => simp only [PyData.eqvAll, h d List.mem_cons_self, ih fun y hy => h y (List.mem_cons_of_mem _ hy), Bool.and_self]
theorem eqv_frD (ps : List (Str × Str)) (qs rs : List Str) : PyData.eqv (frD ps qs rs) (frD ps qs rs) = true := by
  have h1 : ∀ zs : List Str, PyData.eqv (.tuple (zs.map PyData.str)) (.tuple (zs.map PyData.str)) = true := fun zs => by
    simp only [PyData.eqv]
    refine eqvAll_refl fun d hd => ?_
    obtain ⟨z, _, rfl⟩ := List.mem_map.mp hd
    exact eqv_str_refl z
  have h2 : PyData.eqv (.tuple (ps.map prD)) (.tuple (ps.map prD)) = true := by
    simp only [PyData.eqv]
    refine eqvAll_refl fun d hd => ?_
    obtain ⟨p, _, rfl⟩ := List.mem_map.mp hd
    unfold prD
    simp only [PyData.eqv]
    refine eqvAll_refl fun d hd => ?_
    simp only [List.mem_cons, List.not_mem_nil, or_false] at hd
    rcases hd with rfl | rfl
    · exact eqv_str_refl _
    · exact eqv_str_refl _
  unfold frD
  simp only [PyData.eqv]
  refine eqvAll_refl fun d hd => ?_
  simp only [List.mem_cons, List.not_mem_nil, or_false] at hd
  rcases hd with rfl | rfl | rfl
  · exact h2
  · exact h1 qs
  · exact h1 rs
theorem prs_back (ps : List (Str × Str)) : prsD (.tuple (ps.map prD)) = ps := by
  show (ps.map prD).map pairD = ps
  rw [List.map_map]
  exact (List.map_congr_left fun p _ => rfl).trans (List.map_id ps)
theorem strs_back (zs : List Str) : strsD (.tuple (zs.map PyData.str)) = zs := by
  show (zs.map PyData.str).map txtD = zs
  rw [List.map_map]
  exact (List.map_congr_left fun p _ => rfl).trans (List.map_id zs)
/-- the words of the law's parts -/
def W18 : List Str := W16 ++ (["new", "old", "c"] : List Str)
theorem W18_nm : ∀ z ∈ W18, nameS z = true := by decide +kernel
theorem W18_gd : ∀ z ∈ W18, gd (.str z) = true := by decide +kernel
theorem W18_ok : ∀ z ∈ W18, PyData.strOk z = true := by decide +kernel
theorem W18_ln : ∀ z ∈ W18, z.length ≤ 8 := by decide +kernel
theorem W16_18 {z : Str} (h : z ∈ W16) : z ∈ W18 := List.mem_append_left _ h
/-- parts of these words -/
structure Wds (ps : List (Str × Str)) (qs rs : List Str) : Prop where
  m1 : ∀ p ∈ ps, p.1 ∈ W18 ∧ p.2 ∈ W18
  m2 : ∀ z ∈ qs, z ∈ W18
  m3 : ∀ z ∈ rs, z ∈ W18
def isLetP (ps : List (Str × Str)) (qs rs : List Str) : Bool := nodupW (wordsOf ps qs rs) && (decide (ps.length < 13) && (decide (qs.length < 7) && decide (rs.length < 7)))
section
variable {ps ps2 : List (Str × Str)} {qs rs qs2 rs2 : List Str}
theorem GoodP.wds (g : GoodP ps qs rs) : Wds ps qs rs := ⟨fun p hp => ⟨W16_18 (g.m1 p hp).1, W16_18 (g.m1 p hp).2⟩, fun z hz => W16_18 (g.m2 z hz), fun z hz => W16_18 (g.m3 z hz)⟩
theorem Wds.add (a : Wds ps qs rs) (b : Wds ps2 qs2 rs2) : Wds (ps ++ ps2) (qs ++ qs2) (rs ++ rs2) :=
  ⟨fun p hp => (List.mem_append.mp hp).elim (a.m1 p) (b.m1 p), fun z hz => (List.mem_append.mp hz).elim (a.m2 z) (b.m2 z), fun z hz => (List.mem_append.mp hz).elim (a.m3 z) (b.m3 z)⟩
theorem gd_strs18 {zs : List Str} (n : zs.length ≤ 1000) (h : ∀ z ∈ zs, z ∈ W18) : gd (.tuple (zs.map PyData.str)) = true := by
  have e : gdAll (zs.map PyData.str) = true := gdAll_of fun d hd => by
    obtain ⟨z, hz, rfl⟩ := List.mem_map.mp hd
    exact W18_gd z (h z hz)
  simp only [gd]
  rw [e, Bool.and_true, List.length_map]
  exact decide_eq_true n
theorem gd_prs18 {ps : List (Str × Str)} (n : ps.length ≤ 1000) (h : ∀ p ∈ ps, p.1 ∈ W18 ∧ p.2 ∈ W18) : gd (.tuple (ps.map prD)) = true := by
  have e : gdAll (ps.map prD) = true := gdAll_of fun d hd => by
    obtain ⟨p, hp, rfl⟩ := List.mem_map.mp hd
    have a := W18_gd _ (h p hp).1
    have b := W18_gd _ (h p hp).2
    unfold prD
    simp only [gd, gdAll] at a b ⊢
    rw [a, b]
    rfl
  simp only [gd]
  rw [e, Bool.and_true, List.length_map]
  exact decide_eq_true n
theorem isFrame_let (w : Wds ps qs rs) : isFrame (.tuple (ps.map prD)) (.tuple (qs.map PyData.str)) (.tuple (rs.map PyData.str)) = isLetP ps qs rs := by
  have nmS : ∀ {zs : List Str} {n : Nat}, (∀ z ∈ zs, z ∈ W18) → areNm n (.tuple (zs.map PyData.str)) = decide (zs.length < n + 1) := fun {zs n} h => by
    show (decide ((zs.map PyData.str).length ≤ n) && (zs.map PyData.str).all isNm) = _
    have e : (zs.map PyData.str).all isNm = true := List.all_eq_true.mpr fun d hd => by
      obtain ⟨z, hz, rfl⟩ := List.mem_map.mp hd
      exact W18_nm z (h z hz)
    rw [List.length_map, e, Bool.and_true]
    exact decide_eq_decide.mpr ⟨fun _ => by omega, fun _ => by omega⟩
  have h1 : areArr (.tuple (ps.map prD)) = decide (ps.length < 13) := by
    show (decide ((ps.map prD).length ≤ 12) && (ps.map prD).all isPr) = _
    have e : (ps.map prD).all isPr = true := List.all_eq_true.mpr fun d hd => by
      obtain ⟨p, hp, rfl⟩ := List.mem_map.mp hd
      have a := W18_nm _ (w.m1 p hp).1
      have b := W18_nm _ (w.m1 p hp).2
      show ((true && (nameS p.1 && (nameS p.2 && true))) && true) = true
      rw [a, b]
      rfl
    rw [List.length_map, e, Bool.and_true]
    exact decide_eq_decide.mpr ⟨fun _ => by omega, fun _ => by omega⟩
  unfold isFrame isLetP wordsD
  rw [h1, nmS w.m2, nmS w.m3, prs_back, strs_back, strs_back]
  cases nodupW (wordsOf ps qs rs) <;> cases decide (ps.length < 13) <;> cases decide (qs.length < 6 + 1) <;> cases decide (rs.length < 6 + 1) <;> rfl
/-- right parts of these words -/
structure GoodQ (ps : List (Str × Str)) (qs rs : List Str) : Prop where
  w : Wds ps qs rs
  l1 : ps.length ≤ 12
  l2 : qs.length ≤ 6
  l3 : rs.length ≤ 6
  nd : (wordsOf ps qs rs).Nodup
theorem GoodQ.of (w : Wds ps qs rs) (h : isLetP ps qs rs = true) : GoodQ ps qs rs := by
  unfold isLetP at h
  rw [Bool.and_eq_true, Bool.and_eq_true, Bool.and_eq_true] at h
  have a := of_decide_eq_true h.2.1
  have b := of_decide_eq_true h.2.2.1
  have c := of_decide_eq_true h.2.2.2
  exact ⟨w, by omega, by omega, by omega, (nodupW_is h.1).1⟩
theorem GoodQ.let_ (g : GoodQ ps qs rs) : isLetP ps qs rs = true := by
  have l1 := g.l1
  have l2 := g.l2
  have l3 := g.l3
  unfold isLetP nodupW
  rw [onceS_id g.nd, decide_eq_true (by omega), decide_eq_true (by omega), decide_eq_true (by omega), decide_eq_true (by omega)]
  rfl
theorem GoodP.q (g : GoodP ps qs rs) : GoodQ ps qs rs := by
  have l1 := g.l1
  have l2 := g.l2
  have l3 := g.l3
  exact ⟨g.wds, by omega, by omega, by omega, g.nd⟩
theorem GoodQ.frame (g : GoodQ ps qs rs) : isFrame (.tuple (ps.map prD)) (.tuple (qs.map PyData.str)) (.tuple (rs.map PyData.str)) = true := (isFrame_let g.w).trans g.let_
theorem GoodQ.okF (g : GoodQ ps qs rs) : okF ps qs rs := by
  refine ⟨fun z hz => ?_, fun z hz => ?_, fun z hz => W18_ok z (g.w.m2 z hz), fun z hz => W18_ok z (g.w.m3 z hz)⟩
  · obtain ⟨p, hp, rfl⟩ := List.mem_map.mp hz
    exact W18_ok _ (g.w.m1 p hp).1
  · obtain ⟨p, hp, rfl⟩ := List.mem_map.mp hz
    exact W18_ok _ (g.w.m1 p hp).2
theorem lens_mem {z : Str} (h : z ∈ lensOf ps) : z ∈ ps.map (·.2) := onceS_mem _ z h
theorem GoodQ.words (g : Wds ps qs rs) : ∀ z ∈ wordsOf ps qs rs, z ∈ W18 := fun z hz => by
  unfold wordsOf at hz
  rcases List.mem_append.mp hz with h | h
  · obtain ⟨p, hp, rfl⟩ := List.mem_map.mp h
    exact (g.m1 p hp).1
  · rcases List.mem_append.mp h with h | h
    · obtain ⟨p, hp, rfl⟩ := List.mem_map.mp (lens_mem h)
      exact (g.m1 p hp).2
    · exact (List.mem_append.mp h).elim (g.m2 z) (g.m3 z)
end
end K03

set_option autoImplicit false
set_option maxRecDepth 100000
set_option maxHeartbeats 4000000
/-! integers, as they are passed -/
namespace K03
open PySem PySem.Spec PyProof.Rows L2 KX
def lim : Int := 1000000000000000000000000000000000000000000000000000000000000
/-- an integer of any length, neither True nor False -/
def isWh : PyData → Bool
  | .int _ => true
  | _ => false
/-- an integer of at most sixty digits -/
def isIg : PyData → Bool
  | .int i => decide (-lim < i) && decide (i < lim)
  | _ => false
def isBl : PyData → Bool
  | .bool _ => true
  | _ => false
def isIb : PyData → Bool
  | .bool _ | .int _ => true
  | _ => false
theorem kit_int (d : PyData) : kitB (tyD d) "int" = some (isIb d) := by
  have a : (["NoneType", "tuple", "str", "list", "dict"].all fun t => kitB t "int" == some false) = true := by decide +kernel
  have b := fun t h => beq_iff_eq.mp (List.all_eq_true.mp a t h)
  cases d with
  | tuple ds => exact b "tuple" (by simp)
  | none => exact b "NoneType" (by simp)
  | bool _ => show kitB "bool" "int" = some true; decide +kernel
  | int _ => show kitB "int" "int" = some true; decide +kernel
  | str _ => exact b "str" (by simp)
  | list _ => exact b "list" (by simp)
  | dict _ => exact b "dict" (by simp)
theorem kit_bool (d : PyData) : kitB (tyD d) "bool" = some (isBl d) := by
  have a : (["NoneType", "tuple", "str", "list", "dict", "int"].all fun t => kitB t "bool" == some false) = true := by decide +kernel
  have b := fun t h => beq_iff_eq.mp (List.all_eq_true.mp a t h)
  cases d with
  | tuple ds => exact b "tuple" (by simp)
  | none => exact b "NoneType" (by simp)
  | bool _ => show kitB "bool" "bool" = some true; decide +kernel
  | int _ => exact b "int" (by simp)
  | str _ => exact b "str" (by simp)
  | list _ => exact b "list" (by simp)
  | dict _ => exact b "dict" (by simp)
abbrev sWhole : Stmt := topS 7
abbrev sIg : Stmt := topS 8
theorem scWhole : FnScope ["value"] ["value"] (defScope sWhole) := ⟨rfl, rfl, rfl, by decide +kernel, rfl, by decide +kernel, by decide +kernel⟩
theorem scIg : FnScope ["value"] ["value"] (defScope sIg) := ⟨rfl, rfl, rfl, by decide +kernel, rfl, by decide +kernel, by decide +kernel⟩
def spWhole : Sp := fun vs H Q _ => ∃ (v : V) (d : PyData), vs = [v] ∧ Shw H v d ∧ Q (.bl (isWh d)) H
def spIg : Sp := fun vs H Q _ => ∃ (v : V) (d : PyData), vs = [v] ∧ Shw H v d ∧ Q (.bl (isIg d)) H
section
variable {P : Program} {w : World} {K : PySem.W.Frag} {mg : Str → Option Value} {base : Heap}
theorem ok_whole {f : Addr} {fd : FuncData} (F : Fun K "is_whole" "is_whole" sWhole f fd) (B : Free mg) (bb : mg "bool" = none) : FnOk P w K mg base CX0 1 f fd ["value"] spWhole := by
  refine F.ok scWhole (fun vs H Q E h => ?_) (fun cdv A outer s H vs Q E hr h => ?_)
  · obtain ⟨v, d, rfl, _⟩ := h
    rfl
  · obtain ⟨v, d, rfl, sh, q⟩ := h
    refine ⟨_, pss_one (ps_ret (pe_and (pe_callB call_isi (by rfl) B.isinstance (by decide +kernel) (pa_cons (pv 0) (pa_cons (pe_bltn (v := .ty "int") (by rfl) B.int (by decide +kernel) rfl) pa_nil)))
      (pe_one (pe_not (pe_callB call_isi (by rfl) B.isinstance (by decide +kernel) (pa_cons (pv 0) (pa_cons (pe_bltn (v := .ty "bool") (by rfl) bb (by decide +kernel) rfl) pa_nil))))))), ?_⟩
    refine ⟨v, rfl, v, .ty "int", _, _, isIb d, rfl, .ty _, shw_ty sh, kit_ty (kit_int d), isIb d, rfl, ?_⟩
    cases d with
    | int i => exact ⟨v, rfl, v, .ty "bool", _, _, false, rfl, .ty _, shw_ty sh, kit_ty (kit_bool (.int i)), _, rfl, q⟩
    | bool b => exact ⟨v, rfl, v, .ty "bool", _, _, true, rfl, .ty _, shw_ty sh, kit_ty (kit_bool (.bool b)), _, rfl, q⟩
    | none => exact q
    | str _ => exact q
    | list _ => exact q
    | tuple _ => exact q
    | dict _ => exact q
theorem ok_ig {f : Addr} {fd : FuncData} {tk : Tok} (F : Fun K "is_integer" "is_integer" sIg f fd) (W : Fnc P w K mg base CX0 1 "is_whole" ["value"] spWhole) (gL : mg "LIMIT" = some (.int lim tk)) :
    FnOk P w K mg base CX0 2 f fd ["value"] spIg := by
  refine F.ok scIg (fun vs H Q E h => ?_) (fun cdv A outer s H vs Q E hr h => ?_)
  · obtain ⟨v, d, rfl, _⟩ := h
    rfl
  · obtain ⟨v, d, rfl, sh, q⟩ := h
    refine ⟨_, pss_one (ps_ret (pe_and (pe_fnc W hr (by omega) (by rfl) pass0 (pa_cons (pv 0) pa_nil))
      (pe_one (pe_chain op_lt op_lt (pe_un un_neg (pe_glob (v := .int lim) (by rfl) gL ⟨_, rfl⟩)) (pv 0) (pe_glob (v := .int lim) (by rfl) gL ⟨_, rfl⟩))))), ?_⟩
    refine ⟨v, rfl, v, d, rfl, sh, isWh d, rfl, ?_⟩
    cases sh with
    | int i =>
      refine ⟨lim, rfl, .int i, rfl, _, _, rfl, rfl, _, rfl, ?_⟩
      cases e : decide (-lim < i) with
      | true =>
        refine ⟨_, _, rfl, rfl, ?_⟩
        have z : isIg (.int i) = decide (i < lim) := by simp only [isIg, e, Bool.true_and]
        rw [z] at q
        exact q
      | false =>
        have z : isIg (.int i) = false := by simp only [isIg, e, Bool.false_and]
        rw [z] at q
        exact q
    | non => exact q
    | bl b => exact q
    | str x => exact q
    | lst e _ => exact q
    | dct e => exact q
    | tup e _ => exact q
end
end K03

set_option autoImplicit false
set_option maxRecDepth 100000
set_option maxHeartbeats 4000000
/-! which kind a word has -/
namespace K03
open PySem PySem.Spec PyProof.Rows L2 KX
theorem val_app (a b : List (Key × V)) (k : Key) : valV (a ++ b) k = (valV a k).or (valV b k) := by
  unfold valV
  rw [List.find?_append]
  cases a.find? (fun kv => decide (kv.1 = k)) <;> rfl
theorem val_keysK (v : V) (z : Str) : ∀ zs : List Str, valV (keysK v zs) (.inr z) = if z ∈ zs then some v else none
  | [] => rfl
  | y :: ys => by
    by_cases e : y = z
    · subst e
      rw [if_pos List.mem_cons_self]
      exact valV_pos rfl
    · have e2 : ¬ ((Sum.inr y : Key) = Sum.inr z) := fun h => e (Sum.inr.inj h)
      have := val_keysK v z ys
      rw [show keysK v (y :: ys) = ((.inr y : Key), v) :: keysK v ys from rfl, valV_neg e2, this]
      by_cases m : z ∈ ys
      · rw [if_pos m, if_pos (List.mem_cons_of_mem _ m)]
      · rw [if_neg m, if_neg fun h => (List.mem_cons.mp h).elim (fun h => e h.symm) m]
/-- the word's kind -/
def kindW (ps : List (Str × Str)) (qs rs : List Str) (z : Str) : Option Str :=
  if z ∈ ps.map (·.1) then some "array" else if z ∈ lensOf ps then some "length" else if z ∈ qs then some "position" else if z ∈ rs then some "value" else none
theorem kinds_kind (ps : List (Str × Str)) (qs rs : List Str) (z : Str) : valV (kindsOf ps qs rs) (.inr z) = (kindW ps qs rs z).map V.str := by
  unfold kindsOf kindW
  rw [val_app, val_app, val_app, val_keysK, val_keysK, val_keysK, val_keysK]
  by_cases h1 : z ∈ ps.map (·.1)
  · rw [if_pos h1, if_pos h1]; rfl
  · rw [if_neg h1, if_neg h1]
    by_cases h2 : z ∈ lensOf ps
    · rw [if_pos h2, if_pos h2]; rfl
    · rw [if_neg h2, if_neg h2]
      by_cases h3 : z ∈ qs
      · rw [if_pos h3, if_pos h3]; rfl
      · rw [if_neg h3, if_neg h3]
        by_cases h4 : z ∈ rs
        · rw [if_pos h4, if_pos h4]; rfl
        · rw [if_neg h4, if_neg h4]; rfl
/-- the word's kind is one of these -/
def inKs (o : Option Str) (ks : List Str) : Bool := match o with
  | none => false
  | some k => decide (k ∈ ks)
theorem inV_strs (k : Str) : ∀ ks : List Str, inV (.str k) (ks.map V.str) = decide (k ∈ ks)
  | [] => rfl
  | y :: ys => by
    have ih := inV_strs k ys
    unfold inV at ih ⊢
    rw [List.map_cons, List.any_cons, ih]
    by_cases e : y = k
    · subst e
      simp [eqV]
    · have e2 : ¬ k = y := fun h => e h.symm
      simp [eqV, e, e2]
theorem inV_non : ∀ ks : List Str, inV .non (ks.map V.str) = false
  | [] => rfl
  | y :: ys => by
    have ih := inV_non ys
    unfold inV at ih ⊢
    rw [List.map_cons, List.any_cons, ih]
    rfl
theorem inV_kind (o : Option Str) (ks : List Str) : inV ((o.map V.str).getD .non) (ks.map V.str) = inKs o ks := by
  cases o with
  | none => exact inV_non ks
  | some k => exact inV_strs k ks
/-- a datum is a word of one of these kinds -/
def hasK (ps : List (Str × Str)) (qs rs : List Str) (ks : List Str) : PyData → Bool
  | .str z => inKs (kindW ps qs rs z) ks
  | _ => false
abbrev sHas : Stmt := inClass (topS 27) 5
theorem scHas : FnScope ["self", "value", "kinds"] ["self", "value", "kinds"] (defScope sHas) := ⟨rfl, rfl, rfl, by decide +kernel, rfl, by decide +kernel, by decide +kernel⟩
def spHas (C : Addr) : Sp := fun vs H Q _ => ∃ (p : Addr) (v1 v2 v3 : V) (ps : List (Str × Str)) (qs rs : List Str) (v : V) (d : PyData) (k : Addr) (ks : List Str), vs = [.ref p, v, .ref k] ∧ FrameAt C H p v1 v2 v3 ps qs rs ∧ Shw H v d ∧
  H k = some (.tup (ks.map V.str)) ∧ Q (.bl (hasK ps qs rs ks d)) H
section
variable {P : Program} {w : World} {K : PySem.W.Frag} {mg : Str → Option Value} {base : Heap}
theorem ok_has {f C : Addr} {fd : FuncData} (F : Fun K "has_kind" "Frame.has_kind" sHas f fd) (T : FrTxt K mg C) (B : Free mg) : FnOk P w K mg base CX0 1 f fd ["self", "value", "kinds"] (spHas C) := by
  refine F.ok scHas (fun vs H Q E h => ?_) (fun cdv A outer s H vs Q E hr h => ?_)
  · obtain ⟨p, v1, v2, v3, ps, qs, rs, v, d, k, ks, rfl, _⟩ := h
    rfl
  · obtain ⟨p, v1, v2, v3, ps, qs, rs, v, d, k, ks, rfl, Fr, sh, hk, q⟩ := h
    have hu := hu_of hr
    refine ⟨_, pss_one (ps_ret (pe_and (pe_callB call_isi (by rfl) B.isinstance (by decide +kernel) (pa_cons (pv 1) (pa_cons (pe_bltn (v := .ty "str") (by rfl) B.str (by decide +kernel) rfl) pa_nil)))
      (pe_one (pe_cmpR op_in_seq (pe_dget1 hu (pe_fld (pv 0) rfl) (pv 1) ⟨rfl, rfl, rfl, rfl⟩) (pv 2) (by with_unfolding_all rfl))))), ?_⟩
    refine ⟨v, rfl, v, .ty "str", _, _, isStrD d, rfl, .ty _, shw_ty sh, kit_ty (kit_strD d), isStrD d, rfl, ?_⟩
    cases sh with
    | str z =>
      obtain ⟨dx, t, d, e, ob, _, _, hd⟩ := Fr.ob
      have g := DGet.k (k := Sum.inr z) hd
      refine ⟨_, rfl, p, C, dx, _, .ref e, rfl, ob, T.cl, T.no _ (by decide +kernel), lookup_zip (i := 5) (by decide +kernel) rfl, e, rfl, .inl ⟨_, .inl hd⟩, _, rfl, _, g, _, rfl, k, _, rfl, .inr (SqT.of hk), ?_, ?_, ?_⟩
      · rw [kinds_kind]
        cases kindW ps qs rs z <;> rfl
      · rw [List.all_map]
        exact List.all_eq_true.mpr fun _ _ => rfl
      · show Q (.bl (inV ((valV (kindsOf ps qs rs) (.inr z)).getD .non) (ks.map V.str))) H
        rw [kinds_kind, inV_kind]
        exact q
    | non => exact q
    | bl b => exact q
    | int i => exact q
    | lst e _ => exact q
    | dct e => exact q
    | tup e _ => exact q
end
end K03

set_option autoImplicit false
set_option maxRecDepth 100000
set_option maxHeartbeats 4000000
/-! position terms -/
namespace K03
open PySem PySem.Spec PyProof.Rows L2 KX
/-- a word that can stand in a position term -/
def posW (ps : List (Str × Str)) (qs rs own : List Str) (z : Str) : Bool := decide (z = "") || (decide (z ∈ own) || inKs (kindW ps qs rs z) ["position", "length"])
def isPos (ps : List (Str × Str)) (qs rs own : List Str) : PyData → Bool
  | .tuple [.str z, n] => isIg n && posW ps qs rs own z
  | _ => false
abbrev sPos : Stmt := topS 23
abbrev nPos : List Str := ["frame", "value", "extra", "word", "number"]
theorem scPos : FnScope nPos ["frame", "value", "extra"] (defScope sPos) := ⟨rfl, rfl, rfl, by decide +kernel, rfl, by decide +kernel, by decide +kernel⟩
/-- a tuple of texts, of the run or of the written part -/
def TxK (K : PySem.W.Frag) (H : Hp) (x : V) (zs : List Str) : Prop := ∃ b, x = .ref b ∧ SqT K H b (zs.map V.str)
theorem SqT.same {K : PySem.W.Frag} {H H' : Hp} {a : Addr} {xs : List V} (h : SqT K H a xs) (e : Same H H') : SqT K H' a xs :=
  h.elim (fun h => .inl (h.elim (fun h => .inl (e _ _ h)) fun ⟨o, h⟩ => .inr ⟨o, e _ _ h⟩)) fun h => .inr h
theorem TxK.same {K : PySem.W.Frag} {H H' : Hp} {x : V} {zs : List Str} (h : TxK K H x zs) (e : Same H H') : TxK K H' x zs := by
  obtain ⟨b, rfl, h⟩ := h
  exact ⟨b, rfl, SqT.same h e⟩
theorem Txts.k {K : PySem.W.Frag} {H : Hp} {x : V} {zs : List Str} (h : Txts H x zs) : TxK K H x zs := by
  obtain ⟨b, rfl, h⟩ := h
  exact ⟨b, rfl, SqT.of h⟩
def spPos (K : PySem.W.Frag) (C : Addr) : Sp := fun vs H Q _ => ∃ (p : Addr) (v1 v2 v3 : V) (ps : List (Str × Str)) (qs rs : List Str) (v : V) (d : PyData) (x : V) (own : List Str), vs = [.ref p, v, x] ∧ FrameAt C H p v1 v2 v3 ps qs rs ∧ Shw H v d ∧ TxK K H x own ∧
  ∀ H', Same H H' → Q (.bl (isPos ps qs rs own d)) H'
theorem pos_len {ps : List (Str × Str)} {qs rs own : List Str} {ds : List PyData} (h : ds.length ≠ 2) : isPos ps qs rs own (.tuple ds) = false := by
  match ds, h with
  | [], _ => rfl
  | [x], _ => cases x <;> rfl
  | [_, _], h => exact absurd rfl h
  | x :: _ :: _ :: _, _ => cases x <;> rfl
theorem two_of {H : Hp} {xs : List V} {ds : List PyData} (h : ShwAll H xs ds) (l : ds.length = 2) : ∃ x0 x1 d0 d1, xs = [x0, x1] ∧ ds = [d0, d1] ∧ Shw H x0 d0 ∧ Shw H x1 d1 := by
  cases h with
  | nil => cases l
  | cons a r => cases r with
    | nil => cases l
    | cons b r2 => cases r2 with
      | nil => exact ⟨_, _, _, _, rfl, rfl, a, b⟩
      | cons _ _ => simp at l
section
variable {P : Program} {w : World} {K : PySem.W.Frag} {mg : Str → Option Value} {base : Heap}
theorem ok_pos {f C : Addr} {fd : FuncData} (F : Fun K "is_position_over" "is_position_over" sPos f fd) (T : FrTxt K mg C) (B : Free mg) (I : Fnc P w K mg base CX0 2 "is_integer" ["value"] spIg)
    (O : OM P w K mg base CX0 1 C "has_kind" ["self", "value", "kinds"] (spHas C)) : FnOk P w K mg base CX0 3 f fd ["frame", "value", "extra"] (spPos K C) := by
  refine F.ok scPos (fun vs H Q E h => ?_) (fun cdv A outer s H vs Q E hr h => ?_)
  · obtain ⟨p, v1, v2, v3, ps, qs, rs, v, d, x, own, rfl, _⟩ := h
    rfl
  · obtain ⟨p, v1, v2, v3, ps, qs, rs, v, d, x, own, rfl, Fr, sh, tx, q⟩ := h
    refine ⟨_, pss_cons (ps_if (PW.pt (pw_or (pt_not (pt_val (pe_callB call_isi (by rfl) B.isinstance (by decide +kernel) (pa_cons (pv 1) (pa_cons (pe_bltn (v := .ty "tuple") (by rfl) B.tuple (by decide +kernel) rfl) pa_nil)))))
          (pw_or1 (pt_cmpR op_ne (pe_callB call_len_seq (by rfl) B.len PySem.boot_len (pa_cons (pv 1) pa_nil)) pe_int (nomark _)))))
        (pss_one (ps_ret pe_bl)) pss_nil)
      (pss_cons (ps_asg (pv 1) (pg_tup rfl (pgs_cons (pg_name (i := 3) scPos.nd rfl (Or.inl rfl)) (pgs_cons (pg_name (i := 4) scPos.nd rfl (Or.inl rfl)) pgs_nil))))
      (pss_cons (ps_if (PW.pt (pw_or (pt_not (pt_val (pe_callB call_isi (by rfl) B.isinstance (by decide +kernel) (pa_cons (pv 3) (pa_cons (pe_bltn (v := .ty "str") (by rfl) B.str (by decide +kernel) rfl) pa_nil)))))
          (pw_or1 (pt_not (pt_val (pe_fnc I hr (by omega) (by rfl) pass0 (pa_cons (pv 4) pa_nil)))))))
        (pss_one (ps_ret pe_bl)) pss_nil)
      (pss_one (ps_ret (pe_or (pe_cmpR op_eq (pv 3) pe_str (nomark _)) (pe_or (pe_cmpR op_in_seq (pv 3) (pv 2) (by with_unfolding_all rfl))
        (pe_one (pe_om (pl := _) O T.cl hr (by omega) pass0 (pv 0) (pa_cons (pv 3) (pa_cons (pe_tup (pa_cons pe_str (pa_cons pe_str pa_nil))) pa_nil)))))))))), ?_⟩
    refine ⟨v, rfl, v, .ty "tuple", _, _, isTup d, rfl, .ty _, shw_ty sh, kit_ty (kit_tup d), isTup d, rfl, ?_⟩
    cases sh with
    | non => exact q H (Same.refl H)
    | bl b => exact q H (Same.refl H)
    | int i => exact q H (Same.refl H)
    | str x => exact q H (Same.refl H)
    | lst e _ => exact q H (Same.refl H)
    | dct e => exact q H (Same.refl H)
    | @tup a xs ds e ha =>
      have ln := ShwAll.len ha
      refine ⟨.ref a, rfl, a, xs, rfl, .inr (SqT.of e), rfl, _, rfl, ite2 (fun e1 => ?_) (fun e1 => ?_)⟩
      · have h1 : ds.length ≠ 2 := fun z => by
          rw [ln, z] at e1
          revert e1
          decide +kernel
        have z := q H (Same.refl H)
        rw [pos_len h1] at z
        exact z
      · have h1 : ds.length = 2 := by
          apply Classical.byContradiction
          intro h
          refine e1 ?_
          have : ¬ (V.int (xs.length : Int) = V.int 2) := fun z => by
            injection z with z
            omega
          simp [this]
        obtain ⟨x0, x1, d0, d1, rfl, rfl, s0, s1⟩ := two_of ha h1
        refine ⟨.ref a, rfl, a, _, rfl, SqT.of e, rfl, _, _, rfl, _, _, rfl, rfl, ?_⟩
        refine ⟨x0, rfl, x0, .ty "str", _, _, isStrD d0, rfl, .ty _, shw_ty s0, kit_ty (kit_strD d0), isStrD d0, rfl, ?_⟩
        cases s0 with
        | non => exact q H (Same.refl H)
        | bl b => exact q H (Same.refl H)
        | int i => exact q H (Same.refl H)
        | lst e _ => exact q H (Same.refl H)
        | tup e _ => exact q H (Same.refl H)
        | dct e => exact q H (Same.refl H)
        | str z =>
          refine ⟨x1, rfl, x1, d1, rfl, s1, isIg d1, rfl, ?_⟩
          have zz : ∀ _ : Hp, isPos ps qs rs own (.tuple [.str z, d1]) = (isIg d1 && posW ps qs rs own z) := fun _ => by
            unfold isPos
            rfl
          cases ei : isIg d1 with
          | false =>
            have z' := q H (Same.refl H)
            rw [zz H, ei] at z'
            exact z'
          | true =>
            obtain ⟨b, rfl, eb⟩ := tx
            refine ⟨.str z, rfl, rfl, _, rfl, ite2 (fun e2 => ?_) (fun e2 => ?_)⟩
            · have z' := q H (Same.refl H)
              have : z = "" := by
                have := of_decide_eq_true e2
                injection this
              rw [zz H, ei] at z'
              unfold posW at z'
              rw [decide_eq_true this] at z'
              exact z'
            · have h2 : ¬ z = "" := fun h => e2 (decide_eq_true (by rw [h]))
              refine ⟨.str z, rfl, .ref b, rfl, b, _, rfl, (.inr eb), rfl, ?_, _, rfl, ite2 (fun e3 => ?_) (fun e3 => ?_)⟩
              · rw [List.all_map]
                exact List.all_eq_true.mpr fun _ _ => rfl
              · have z' := q H (Same.refl H)
                rw [zz H, ei] at z'
                unfold posW at z'
                have e3 : inV (.str z) (own.map V.str) = true := e3
                rw [inV_strs] at e3
                rw [decide_eq_false h2, e3] at z'
                exact z'
              · refine ⟨.ref p, rfl, ?_⟩
                obtain ⟨dx, t, d2, e4, ob, _⟩ := id Fr.ob
                refine ⟨p, dx, _, rfl, ob, lookup_zip_none (by decide +kernel), .str z, rfl, (by rw [sizeLine_eq]; decide), fun tp ntp => ?_⟩
                have sm := same_upd (p := tp) (o := .tup [.str "position", .str "length"]) ntp
                refine ⟨p, v1, v2, v3, ps, qs, rs, .str z, .str z, tp, ["position", "length"], rfl, Fr.same sm, .str z, upd_same, ?_⟩
                have z' := q _ sm
                rw [zz H, ei] at z'
                unfold posW at z'
                have e3 : ¬ inV (.str z) (own.map V.str) = true := e3
                rw [inV_strs] at e3
                rw [decide_eq_false h2, Bool.eq_false_iff.mpr e3] at z'
                exact z'
end
end K03

set_option autoImplicit false
set_option maxRecDepth 100000
set_option maxHeartbeats 4000000
/-! value terms -/
namespace K03
open PySem PySem.Spec PyProof.Rows L2 KX
def worthW (ps : List (Str × Str)) (qs rs : List Str) : PyData → Bool
  | .str z => decide (z = "") || inKs (kindW ps qs rs z) ["value"]
  | _ => false
def isVal (ps : List (Str × Str)) (qs rs own : List Str) : PyData → Bool
  | .tuple [w, n] => isIg n && worthW ps qs rs w
  | .tuple [w, x, y, n] => isIg n && (hasK ps qs rs ["array"] w && isPos ps qs rs own (.tuple [x, y]))
  | _ => false
abbrev sVal : Stmt := topS 24
abbrev nVal : List Str := ["frame", "value", "extra", "word"]
theorem scVal : FnScope nVal ["frame", "value", "extra"] (defScope sVal) := ⟨rfl, rfl, rfl, by decide +kernel, rfl, by decide +kernel, by decide +kernel⟩
def spVal (K : PySem.W.Frag) (C : Addr) : Sp := fun vs H Q _ => ∃ (p : Addr) (v1 v2 v3 : V) (ps : List (Str × Str)) (qs rs : List Str) (v : V) (d : PyData) (x : V) (own : List Str), vs = [.ref p, v, x] ∧ FrameAt C H p v1 v2 v3 ps qs rs ∧ Shw H v d ∧ TxK K H x own ∧
  ∀ H', Same H H' → Q (.bl (isVal ps qs rs own d)) H'
theorem val_len {ps : List (Str × Str)} {qs rs own : List Str} {ds : List PyData} (h : ds.length ≠ 2) (h4 : ds.length ≠ 4) : isVal ps qs rs own (.tuple ds) = false := by
  match ds, h, h4 with
  | [], _, _ => rfl
  | [x], _, _ => rfl
  | [_, _], h, _ => exact absurd rfl h
  | [_, _, _], _, _ => rfl
  | [_, _, _, _], _, h => exact absurd rfl h
  | _ :: _ :: _ :: _ :: _ :: _, _, _ => rfl
theorem four_of {H : Hp} {xs : List V} {ds : List PyData} (h : ShwAll H xs ds) (l : ds.length = 4) : ∃ x0 x1 x2 x3 d0 d1 d2 d3, xs = [x0, x1, x2, x3] ∧ ds = [d0, d1, d2, d3] ∧ Shw H x0 d0 ∧ Shw H x1 d1 ∧ Shw H x2 d2 ∧ Shw H x3 d3 := by
  cases h with
  | nil => cases l
  | cons a r => cases r with
    | nil => simp at l
    | cons b r => cases r with
      | nil => simp at l
      | cons c r => cases r with
        | nil => simp at l
        | cons d r => cases r with
          | nil => exact ⟨_, _, _, _, _, _, _, _, rfl, rfl, a, b, c, d⟩
          | cons _ _ => simp at l
theorem inV_24 (n : Nat) : inV (.int n) [.int 2, .int 4] = (decide (n = 2) || decide (n = 4)) := by
  have e : ∀ a b : Int, eqV (.int a) (.int b) = decide (a = b) := fun a b => by first | rfl | simp [eqV]
  unfold inV
  rw [List.any_cons, List.any_cons, List.any_nil, e, e, Bool.or_false]
  congr 1
  · exact decide_eq_decide.mpr ⟨fun h => by omega, fun h => by omega⟩
  · exact decide_eq_decide.mpr ⟨fun h => by omega, fun h => by omega⟩
section
variable {P : Program} {w : World} {K : PySem.W.Frag} {mg : Str → Option Value} {base : Heap}
theorem ok_val {f C : Addr} {fd : FuncData} (F : Fun K "is_value_over" "is_value_over" sVal f fd) (T : FrTxt K mg C) (B : Free mg) (I : Fnc P w K mg base CX0 2 "is_integer" ["value"] spIg)
    (O : OM P w K mg base CX0 1 C "has_kind" ["self", "value", "kinds"] (spHas C)) (PO : Fnc P w K mg base CX0 3 "is_position_over" ["frame", "value", "extra"] (spPos K C)) : FnOk P w K mg base CX0 4 f fd ["frame", "value", "extra"] (spVal K C) := by
  refine F.ok scVal (fun vs H Q E h => ?_) (fun cdv A outer s H vs Q E hr h => ?_)
  · obtain ⟨p, v1, v2, v3, ps, qs, rs, v, d, x, own, rfl, _⟩ := h
    rfl
  · obtain ⟨p, v1, v2, v3, ps, qs, rs, v, d, x, own, rfl, Fr, sh, tx, q⟩ := h
    refine ⟨_, pss_cons (ps_if (PW.pt (pw_or (pt_not (pt_val (pe_callB call_isi (by rfl) B.isinstance (by decide +kernel) (pa_cons (pv 1) (pa_cons (pe_bltn (v := .ty "tuple") (by rfl) B.tuple (by decide +kernel) rfl) pa_nil)))))
          (pw_or (pt_cmpR op_notIn_seq (pe_callB call_len_seq (by rfl) B.len PySem.boot_len (pa_cons (pv 1) pa_nil)) (pe_tup (pa_cons pe_int (pa_cons pe_int pa_nil))) (by with_unfolding_all rfl))
          (pw_or1 (pt_not (pt_val (pe_fnc I hr (by omega) (by rfl) pass0 (pa_cons (pe_ix ix_tup (pv 1) (pe_un un_neg pe_int) (fun _ _ => rfl)) pa_nil))))))))
        (pss_one (ps_ret pe_bl)) pss_nil)
      (pss_cons (ps_asg (pe_ix ix_tup (pv 1) pe_int (fun _ _ => rfl)) (pg_name (i := 3) scVal.nd rfl (Or.inl rfl)))
      (pss_cons (ps_if (pt_cmpR op_eq (pe_callB call_len_seq (by rfl) B.len PySem.boot_len (pa_cons (pv 1) pa_nil)) pe_int (nomark _))
        (pss_one (ps_ret (pe_and (pe_callB call_isi (by rfl) B.isinstance (by decide +kernel) (pa_cons (pv 3) (pa_cons (pe_bltn (v := .ty "str") (by rfl) B.str (by decide +kernel) rfl) pa_nil)))
          (pe_one (pe_or (pe_cmpR op_eq (pv 3) pe_str (nomark _)) (pe_one (pe_om (pl := _) O T.cl hr (by omega) pass0 (pv 0) (pa_cons (pv 3) (pa_cons (pe_tup (pa_cons pe_str pa_nil)) pa_nil)))))))))
        pss_nil)
      (pss_one (ps_ret (pe_and (pe_om (pl := _) O T.cl hr (by omega) pass0 (pv 0) (pa_cons (pv 3) (pa_cons (pe_tup (pa_cons pe_str pa_nil)) pa_nil)))
        (pe_one (pe_fnc PO hr (by omega) (by rfl) pass0 (pa_cons (pv 0) (pa_cons (pe_slice sl_tupA (pv 1) (po_some pe_int) (po_some pe_int)) (pa_cons (pv 2) pa_nil)))))))))), ?_⟩
    refine ⟨v, rfl, v, .ty "tuple", _, _, isTup d, rfl, .ty _, shw_ty sh, kit_ty (kit_tup d), isTup d, rfl, ?_⟩
    cases sh with
    | non => exact q H (Same.refl H)
    | bl b => exact q H (Same.refl H)
    | int i => exact q H (Same.refl H)
    | str x => exact q H (Same.refl H)
    | lst e _ => exact q H (Same.refl H)
    | dct e => exact q H (Same.refl H)
    | @tup a xs ds e ha =>
      have ln := ShwAll.len ha
      refine ⟨.ref a, rfl, a, xs, rfl, .inr (SqT.of e), (by rw [sizeLine_eq]; decide), fun tp ntp => ⟨tp, _, rfl, .inr (SqT.of upd_same), rfl, rfl, _, rfl, ?_⟩⟩
      have sm := same_upd (p := tp) (o := .tup [.int 2, .int 4]) ntp
      have e' := sm _ _ e
      have ha' := ShwAll.same ha sm
      have Fr' := Fr.same sm
      have tx' := tx.same sm
      have q' : ∀ H', Same (upd H tp (.tup [.int 2, .int 4])) H' → Q (.bl (isVal ps qs rs own (.tuple ds))) H' := fun H' s' => q H' (sm.trans s')
      generalize upd H tp (.tup [.int 2, .int 4]) = H1 at e' ha' Fr' tx' q' ⊢
      refine ite2 (fun e1 => ?_) (fun e1 => ?_)
      · have e1 : (!inV (.int (xs.length : Nat)) [.int 2, .int 4]) = true := e1
        rw [inV_24, ln] at e1
        have h2 : ds.length ≠ 2 := fun h => by rw [h] at e1; revert e1; decide
        have h4 : ds.length ≠ 4 := fun h => by rw [h] at e1; revert e1; decide
        have z := q' H1 (Same.refl H1)
        rw [val_len h2 h4] at z
        exact z
      · have e1 : ¬ (!inV (.int (xs.length : Nat)) [.int 2, .int 4]) = true := e1
        rw [inV_24, ln] at e1
        have h24 : ds.length = 2 ∨ ds.length = 4 := by
          by_cases h2 : ds.length = 2
          · exact .inl h2
          · by_cases h4 : ds.length = 4
            · exact .inr h4
            · exact absurd (by rw [decide_eq_false h2, decide_eq_false h4]; rfl) e1
        rcases h24 with h2 | h4
        · obtain ⟨x0, x1, d0, d1, rfl, rfl, s0, s1⟩ := two_of ha' h2
          refine ⟨.ref a, rfl, 1, rfl, a, _, -1, x1, rfl, rfl, SqT.of e', rfl, x1, d1, rfl, s1, isIg d1, rfl, ?_⟩
          have zz : isVal ps qs rs own (.tuple [d0, d1]) = (isIg d1 && worthW ps qs rs d0) := rfl
          cases ei : isIg d1 with
          | false =>
            have z' := q' H1 (Same.refl H1)
            rw [zz, ei] at z'
            exact z'
          | true =>
            have q2 : ∀ H', Same H1 H' → Q (.bl (worthW ps qs rs d0)) H' := fun H' s' => by
              have z' := q' H' s'
              rw [zz, ei] at z'
              exact z'
            refine ⟨.ref a, rfl, a, _, 0, x0, rfl, rfl, SqT.of e', rfl, ?_⟩
            refine ⟨.ref a, rfl, a, _, rfl, .inr (SqT.of e'), rfl, _, rfl, ?_⟩
            refine ⟨x0, rfl, x0, .ty "str", _, _, isStrD d0, rfl, .ty _, shw_ty s0, kit_ty (kit_strD d0), isStrD d0, rfl, ?_⟩
            cases s0 with
            | non => exact q2 H1 (Same.refl H1)
            | bl b => exact q2 H1 (Same.refl H1)
            | int i => exact q2 H1 (Same.refl H1)
            | lst e _ => exact q2 H1 (Same.refl H1)
            | tup e _ => exact q2 H1 (Same.refl H1)
            | dct e => exact q2 H1 (Same.refl H1)
            | str z =>
              refine ⟨.str z, rfl, rfl, _, rfl, ite2 (fun e2 => ?_) (fun e2 => ?_)⟩
              · have z' := q2 H1 (Same.refl H1)
                have : z = "" := by
                  have := of_decide_eq_true e2
                  injection this
                rw [show worthW ps qs rs (.str z) = (decide (z = "") || inKs (kindW ps qs rs z) ["value"]) from rfl] at z'
                rw [decide_eq_true this] at z'
                exact z'
              · have h2 : ¬ z = "" := fun h => e2 (decide_eq_true (by rw [h]))
                refine ⟨.ref p, rfl, ?_⟩
                obtain ⟨dx, t, d2, e4, ob, _⟩ := id Fr'.ob
                refine ⟨p, dx, _, rfl, ob, lookup_zip_none (by decide +kernel), .str z, rfl, (by rw [sizeLine_eq]; decide), fun tp ntp => ?_⟩
                have sm := same_upd (p := tp) (o := .tup [.str "value"]) ntp
                refine ⟨p, v1, v2, v3, ps, qs, rs, .str z, .str z, tp, ["value"], rfl, Fr'.same sm, .str z, upd_same, ?_⟩
                have z' := q2 _ sm
                rw [show worthW ps qs rs (.str z) = (decide (z = "") || inKs (kindW ps qs rs z) ["value"]) from rfl] at z'
                rw [decide_eq_false h2] at z'
                exact z'
        · obtain ⟨x0, x1, x2, x3, d0, d1, d2, d3, rfl, rfl, s0, s1, s2, s3⟩ := four_of ha' h4
          refine ⟨.ref a, rfl, 1, rfl, a, _, -1, x3, rfl, rfl, SqT.of e', rfl, x3, d3, rfl, s3, isIg d3, rfl, ?_⟩
          have zz : isVal ps qs rs own (.tuple [d0, d1, d2, d3]) = (isIg d3 && (hasK ps qs rs ["array"] d0 && isPos ps qs rs own (.tuple [d1, d2]))) := rfl
          cases ei : isIg d3 with
          | false =>
            have z' := q' H1 (Same.refl H1)
            rw [zz, ei] at z'
            exact z'
          | true =>
            have q2 : ∀ H', Same H1 H' → Q (.bl (hasK ps qs rs ["array"] d0 && isPos ps qs rs own (.tuple [d1, d2]))) H' := fun H' s' => by
              have z' := q' H' s'
              rw [zz, ei] at z'
              exact z'
            refine ⟨.ref a, rfl, a, _, 0, x0, rfl, rfl, SqT.of e', rfl, ?_⟩
            refine ⟨.ref a, rfl, a, _, rfl, .inr (SqT.of e'), rfl, _, rfl, ?_⟩
            refine ⟨.ref p, rfl, ?_⟩
            obtain ⟨dx, t, dd2, e4, ob, _⟩ := id Fr'.ob
            refine ⟨p, dx, _, rfl, ob, lookup_zip_none (by decide +kernel), x0, rfl, (by rw [sizeLine_eq]; decide), fun tp ntp => ?_⟩
            have sm := same_upd (p := tp) (o := .tup [.str "array"]) ntp
            refine ⟨p, v1, v2, v3, ps, qs, rs, x0, d0, tp, ["array"], rfl, Fr'.same sm, Shw.same s0 sm, upd_same, _, rfl, ?_⟩
            cases eh : hasK ps qs rs ["array"] d0 with
            | false =>
              have z' := q2 _ sm
              rw [eh] at z'
              exact z'
            | true =>
              refine ⟨.ref p, rfl, .ref a, rfl, 1, rfl, 3, rfl, a, _, rfl, SqT.of (sm _ _ e'), fun h => absurd (show (1 : Nat) = 0 from h.1) (by decide), fun _ r nr => ?_⟩
              have sm2 := same_upd (p := r) (o := .tup [x1, x2]) nr
              have s12 := sm.trans sm2
              refine ⟨x, rfl, p, v1, v2, v3, ps, qs, rs, .ref r, .tuple [d1, d2], x, own, rfl, Fr'.same s12, .tup upd_same (.cons (Shw.same s1 s12) (.cons (Shw.same s2 s12) .nil)), tx'.same s12, fun H' s' => ?_⟩
              have z' := q2 _ (s12.trans s')
              rw [eh] at z'
              exact z'
end
end K03

set_option autoImplicit false
set_option maxRecDepth 100000
set_option maxHeartbeats 4000000
/-! claims, guards and bodies as data: one judge with a depth, which is the same for all great depths -/
namespace K03
open PySem PySem.Spec PyProof.Rows L2 KX
inductive Kd where
  | form
  | guard
  | body
deriving DecidableEq
def opsW : List Str := ["<=", "<", "=="]
def isOp : PyData → Bool
  | .str z => decide (z ∈ opsW)
  | _ => false
def strict : PyData → Bool
  | .str z => decide (z = "<")
  | _ => false
def allStr : List PyData → Bool
  | [] => true
  | .str _ :: ds => allStr ds
  | _ :: _ => false
/-- right own names -/
def ownD (ps : List (Str × Str)) (qs rs : List Str) : PyData → Bool
  | .tuple ds => decide (ds.length = 1 ∨ ds.length = 2) && (allStr ds && ((ds.map txtD).all fun z => nameS z && !decide (z ∈ wordsOf ps qs rs)) && decide ((onceS (ds.map txtD)).length = ds.length))
  | _ => false
/-- a term of a guard: if its name is an own one, its number is 0 -/
def mineT (own : List Str) : PyData → Bool
  | .tuple (.str z :: _) => decide (z ∈ own)
  | _ => false
def zeroT : PyData → Bool
  | .tuple [_, .int i] => decide (i = 0)
  | _ => false
/-- a value term that is no cell beside an own name -/
def besideT (own : List Str) : PyData → Bool
  | .tuple [_, .str z, .int i, _] => !decide (z ∈ own) || decide (i = 0)
  | _ => true
section
variable (ps : List (Str × Str)) (qs rs : List Str)
def atomP (own : List Str) : List PyData → Bool
  | [op, s, t] => isOp op && (isPos ps qs rs own s && isPos ps qs rs own t)
  | _ => false
def atomV (own : List Str) : List PyData → Bool
  | [op, s, t] => isOp op && (isVal ps qs rs own s && isVal ps qs rs own t)
  | _ => false
def guardA (own : List Str) : List PyData → Bool
  | [op, s, t] => !strict op && ((mineT own s || mineT own t) && ((!mineT own s || zeroT s) && (!mineT own t || zeroT t)))
  | _ => false
def bodyA (own : List Str) : List PyData → Bool
  | [_, s, t] => besideT own s && besideT own t
  | _ => false
def posK (own : List Str) (ds : List PyData) : Kd → Bool
  | .form => atomP ps qs rs own ds
  | .guard => atomP ps qs rs own ds && guardA own ds
  | .body => false
def valK (own : List Str) (ds : List PyData) : Kd → Bool
  | .form => atomV ps qs rs own ds
  | .guard => false
  | .body => atomV ps qs rs own ds && bodyA own ds
/-- whether a value is a claim, a guard or a body of at most this depth -/
def jf : Nat → Kd → List Str → PyData → Bool
  | 0, _, _, _ => false
  | n + 1, k, own, .tuple (.str w :: ds) =>
    if w = "pos" then posK ps qs rs own ds k
    else if w = "val" then valK ps qs rs own ds k
    else if w = "not" then decide (k ≠ .guard) && (match ds with
      | [d] => jf n k own d
      | _ => false)
    else if w = "and" ∨ w = "or" then (match ds with
      | [.tuple es] => es.all (jf n k own)
      | _ => false)
    else if w = "all" then decide (k = .form) && (match ds with
      | [o, g, b] => ownD ps qs rs o && (jf n .guard (strsD o) g && jf n .body (strsD o) b)
      | _ => false)
    else false
  | _ + 1, _, _, _ => false
variable {ps qs rs}
theorem depth_mem {d : PyData} : ∀ {ds : List PyData}, d ∈ ds → PyData.depth d ≤ PyData.depthAll ds
  | [], h => nomatch h
  | x :: xs, h => by
    simp only [PyData.depthAll]
    rcases List.mem_cons.mp h with rfl | h
    · omega
    · have := depth_mem h
      omega
theorem depth_tup (ds : List PyData) : PyData.depth (.tuple ds) = PyData.depthAll ds + 1 := by simp only [PyData.depth]
/-- beyond a value's own depth the judge is one -/
theorem jf_same : ∀ (n m : Nat) (k : Kd) (own : List Str) (d : PyData), PyData.depth d ≤ n → PyData.depth d ≤ m → jf ps qs rs n k own d = jf ps qs rs m k own d
  | 0, m, k, own, d, h, _ => by
    cases d with
    | tuple ds => rw [depth_tup] at h; omega
    | _ => cases m <;> rfl
  | n + 1, 0, k, own, d, _, h => by
    cases d with
    | tuple ds => rw [depth_tup] at h; omega
    | _ => rfl
  | n + 1, m + 1, k, own, d, h1, h2 => by
    cases d with
    | tuple ds =>
      rw [depth_tup] at h1 h2
      cases ds with
      | nil => rfl
      | cons x ds =>
        cases x with
        | str w =>
          have sub : ∀ e ∈ ds, ∀ (k : Kd) (own : List Str), jf ps qs rs n k own e = jf ps qs rs m k own e := fun e he k own => by
            have := depth_mem (List.mem_cons_of_mem (.str w) he)
            exact jf_same n m k own e (by omega) (by omega)
          simp only [jf]
          split
          · rfl
          split
          · rfl
          split
          · match ds, sub with
            | [], _ => rfl
            | [d], s => simp only [s d List.mem_cons_self]
            | _ :: _ :: _, _ => rfl
          split
          · match ds, sub with
            | [], _ => rfl
            | [.tuple es], _ =>
              have e : ∀ x ∈ es, jf ps qs rs n k own x = jf ps qs rs m k own x := fun x hx => by
                have a := depth_mem hx
                have b := depth_mem (show PyData.tuple es ∈ PyData.str w :: [.tuple es] from List.mem_cons_of_mem _ List.mem_cons_self)
                rw [depth_tup] at b
                exact jf_same n m k own x (by omega) (by omega)
              show es.all _ = es.all _
              rw [Bool.eq_iff_iff, List.all_eq_true, List.all_eq_true]
              exact ⟨fun h x hx => by rw [← e x hx]; exact h x hx, fun h x hx => by rw [e x hx]; exact h x hx⟩
            | [.none], _ => rfl
            | [.bool _], _ => rfl
            | [.int _], _ => rfl
            | [.str _], _ => rfl
            | [.list _], _ => rfl
            | [.dict _], _ => rfl
            | a :: _ :: _, _ => cases a <;> rfl
          split
          · match ds, sub with
            | [], _ => rfl
            | [_], _ => rfl
            | [_, _], _ => rfl
            | [o, g, b], s => simp only [s g (by simp), s b (by simp)]
            | _ :: _ :: _ :: _ :: _, _ => rfl
          · rfl
        | _ => rfl
    | _ => rfl
end
end K03

set_option autoImplicit false
set_option maxRecDepth 100000
set_option maxHeartbeats 4000000
/-! what claims begin with -/
namespace K03
open PySem PySem.Spec PyProof.Rows L2 KX
abbrev sWd : Stmt := topS 32
theorem scWd : FnScope ["value"] ["value"] (defScope sWd) := ⟨rfl, rfl, rfl, by decide +kernel, rfl, by decide +kernel, by decide +kernel⟩
/-- a tuple that begins with a text -/
def isWd : PyData → Bool
  | .tuple (.str _ :: _) => true
  | _ => false
def spWd : Sp := fun vs H Q _ => ∃ (v : V) (d : PyData), vs = [v] ∧ Shw H v d ∧ Q (.bl (isWd d)) H
abbrev sPt : Stmt := topS 34
theorem scPt : FnScope ["value"] ["value"] (defScope sPt) := ⟨rfl, rfl, rfl, by decide +kernel, rfl, by decide +kernel, by decide +kernel⟩
/-- behind the word one tuple -/
def hasPt : PyData → Bool
  | .tuple [_, .tuple _] => true
  | _ => false
def spPt : Sp := fun vs H Q _ => ∃ (v : V) (ds : List PyData), vs = [v] ∧ Shw H v (.tuple ds) ∧ Q (.bl (hasPt (.tuple ds))) H
theorem at0 (x : V) (xs : List V) : atI (x :: xs) 0 = some x := by
  unfold atI ixN
  simp
section
variable {P : Program} {w : World} {K : PySem.W.Frag} {mg : Str → Option Value} {base : Heap}
theorem ok_wd {f : Addr} {fd : FuncData} (F : Fun K "is_worded" "is_worded" sWd f fd) (B : Free mg) : FnOk P w K mg base CX0 1 f fd ["value"] spWd := by
  refine F.ok scWd (fun vs H Q E h => ?_) (fun cdv A outer s H vs Q E hr h => ?_)
  · obtain ⟨v, d, rfl, _⟩ := h
    rfl
  · obtain ⟨v, d, rfl, sh, q⟩ := h
    refine ⟨_, pss_one (ps_ret (pe_and (pe_callB call_isi (by rfl) B.isinstance (by decide +kernel) (pa_cons (pv 0) (pa_cons (pe_bltn (v := .ty "tuple") (by rfl) B.tuple (by decide +kernel) rfl) pa_nil)))
      (pe_and (pe_cmpR op_gt (pe_callB call_len_seq (by rfl) B.len PySem.boot_len (pa_cons (pv 0) pa_nil)) pe_int (nomark _))
      (pe_one (pe_callB call_isi (by rfl) B.isinstance (by decide +kernel) (pa_cons (pe_ix ix_tup (pv 0) pe_int (fun _ _ => rfl)) (pa_cons (pe_bltn (v := .ty "str") (by rfl) B.str (by decide +kernel) rfl) pa_nil))))))), ?_⟩
    refine ⟨v, rfl, v, .ty "tuple", _, _, isTup d, rfl, .ty _, shw_ty sh, kit_ty (kit_tup d), isTup d, rfl, ?_⟩
    cases sh with
    | non => exact q
    | bl b => exact q
    | int i => exact q
    | str x => exact q
    | lst e _ => exact q
    | dct e => exact q
    | @tup a xs ds e ha =>
      cases ha with
      | nil => exact ⟨.ref a, rfl, a, _, rfl, .inr (SqT.of e), _, _, rfl, rfl, _, rfl, q⟩
      | @cons x xs' d ds' h1 h2 =>
        refine ⟨.ref a, rfl, a, _, rfl, .inr (SqT.of e), _, _, rfl, rfl, _, rfl, ?_⟩
        have c1 : decide (((((x :: xs').length : Nat) : Int)) > 0) = true := decide_eq_true (by rw [List.length_cons]; omega)
        rw [c1]
        refine ⟨.ref a, rfl, a, _, 0, x, rfl, rfl, SqT.of e, at0 _ _, x, .ty "str", _, _, isStrD d, rfl, .ty _, shw_ty h1, kit_ty (kit_strD d), ?_⟩
        cases d <;> exact q
theorem ok_hasPt {f : Addr} {fd : FuncData} (F : Fun K "has_parts" "has_parts" sPt f fd) (B : Free mg) : FnOk P w K mg base CX0 1 f fd ["value"] spPt := by
  refine F.ok scPt (fun vs H Q E h => ?_) (fun cdv A outer s H vs Q E hr h => ?_)
  · obtain ⟨v, d, rfl, _⟩ := h
    rfl
  · obtain ⟨v, ds, rfl, sh, q⟩ := h
    refine ⟨_, pss_one (ps_ret (pe_and (pe_cmpR op_eq (pe_callB call_len_seq (by rfl) B.len PySem.boot_len (pa_cons (pv 0) pa_nil)) pe_int (nomark _))
      (pe_one (pe_callB call_isi (by rfl) B.isinstance (by decide +kernel) (pa_cons (pe_ix ix_tup (pv 0) pe_int (fun _ _ => rfl)) (pa_cons (pe_bltn (v := .ty "tuple") (by rfl) B.tuple (by decide +kernel) rfl) pa_nil)))))), ?_⟩
    obtain ⟨a, xs, rfl, e, ha⟩ : ∃ a xs, v = .ref a ∧ H a = some (.tup xs) ∧ ShwAll H xs ds := by
      cases sh with
      | tup e r => exact ⟨_, _, rfl, e, r⟩
    have ln := ShwAll.len ha
    refine ⟨.ref a, rfl, a, xs, rfl, .inr (SqT.of e), rfl, _, rfl, ite2 (fun e1 => ?_) (fun e1 => ?_)⟩
    · have l2 : xs.length = 2 := by
        have := of_decide_eq_true e1
        have := V.int.inj this
        omega
      obtain ⟨x0, x1, d0, d1, rfl, rfl, s0, s1⟩ := two_of ha (by omega)
      refine ⟨.ref a, rfl, a, _, 1, x1, rfl, rfl, SqT.of e, rfl, x1, .ty "tuple", _, _, isTup d1, rfl, .ty _, shw_ty s1, kit_ty (kit_tup d1), ?_⟩
      cases d1 <;> exact q
    · have en : hasPt (.tuple ds) = false := by
        match ds, ha with
        | [], _ => rfl
        | [_], _ => rfl
        | [d0, d1], _ => exact absurd (decide_eq_true (congrArg V.int (by rw [ln]; rfl))) e1
        | _ :: b :: _ :: _, _ => cases b <;> rfl
      rw [en] at q
      exact q
end
end K03

set_option autoImplicit false
set_option maxRecDepth 100000
set_option maxHeartbeats 4000000
namespace KX
open PySem PySem.Spec PyProof.Rows L2 PySem.SeqAt
open PySem.AutoSeq1 (wpAny_loadPart')
open PySem.MeetsSeq
theorem str_declines_dict (b : Str) (u : Tok) (l : Addr) (es : Array DictEntry) (n : Nat) (dd : Option Addr) (sl : Array (Option Value)) :
    Meets (Builtin.«str.__eq__» ⟨[.str b u, .ref l], []⟩) (fun _ R s => s.heap.get? l = some { cls := .type "dict", dict := dd, data := .dict es n, slots := sl } ∧ R (.ok (.ret .notImplemented)) s) :=
  .of_wp fun prog w A R s h => by obtain ⟨hp, g, d, tk, os⟩ := s; obtain ⟨hl, h⟩ := h; wp_walk using wpAny_loadPart' hl, wpAny_load hl; exact ⟨_, rfl, h⟩
section
variable {A : Around} {s : Shared}
theorem str_dict {l : Addr} {es : Array DictEntry} {n : Nat} {o : Obj} (b : Str) (u : Tok) (ho : s.heap.get? l = some o) (hc : o.cls = .type "dict") (hd : o.data = .dict es n) (hu : A.units < cLine) : EqAt A s (.str b u) (.ref l) false := fun prog w E Q h => by
  unfold eqBool
  refine wpAny_holding ?_
  refine wpAny_ite_split (fun hab => absurd (eq_of_beq hab) nofun) (fun _ => ?_)
  refine wpAny_bind ?_
  obtain ⟨cls, dd, data, sl⟩ := o
  simp only at hc hd
  subst hc hd
  have ty : s.TypeIs (.ref l) "dict" := ⟨_, ho, rfl⟩
  refine rc_eq_decline_or (k := false) (typeIs_str s b u) ty (by decide) F.sub_dict_str F.slot_str_eq F.slot_dict_eq_refl
    (fun _ hq => call_meets F.slot_str_eq (typeIs_str s b u) F.entry_str_eq (F.args_str_eq_2 _ _) (str_declines_dict b u l es n dd sl) ⟨ho, hq⟩)
    (fun Q' hq => wpAny_call_entry F.slot_dict_eq_refl ty F.entry_dict_eq ?_ (F.args_dict_eq_2 _ _))
    (fun _ hq => wpAny_of_eq (rfl : isSame (.str b u) (.ref l) = pure false) hq) (.inr hu) (wpAny_truthy_bool h)
  show wpAny _ _ (Builtin.Dict.dictSlotArgs "__eq__" ⟨[.ref l, .str b u], []⟩ >>= _) _ _ s
  refine wpAny_bind ?_
  unfold Builtin.Dict.dictSlotArgs
  refine wpAny_bind (wpAny_notOrdered_dict ty ?_)
  show wpAny _ _ (pure (Value.ref l, Value.str b u)) _ _ s
  refine wpAny_pure ?_
  refine wpAny_bind (wpAny_isInstance (T := "str") (typeIs_str s b u) PySem.F.sub_str_dict ?_)
  simp only [Bool.not_false, if_true]
  exact wpAny_bind (wpAny_rule (wpAny_pure ⟨_, rfl, hq⟩))
end
end KX

set_option autoImplicit false
set_option maxRecDepth 100000
set_option maxHeartbeats 4000000
namespace K03
open PySem PySem.Spec PyProof.Rows L2 KX
/-- which items of a tuple of texts are it -/
def eS (d : PyData) : Value → Bool
  | .str z _ => match d with
    | .str y => decide (y = z)
    | _ => false
  | _ => false
theorem any_eS (d : PyData) : ∀ {zs : List Str} {us : List Value}, Vals (zs.map V.str) us → us.any (eS d) = hasW zs d
  | [], _, .nil => by cases d <;> rfl
  | z :: zs, _, .cons r t => by
    obtain ⟨k, rfl⟩ := r
    rw [List.any_cons, any_eS d t]
    cases d with
    | str y =>
      show (decide (y = z) || decide (y ∈ zs)) = decide (y ∈ z :: zs)
      by_cases e : y = z <;> simp [e]
    | _ => rfl
section
variable {X : Cx}
def rInT (K : PySem.W.Frag) : R2 := fun x y H Q => ∃ p zs d, y = .ref p ∧ SqT K H p (zs.map V.str) ∧ Shw H x d ∧ Q (.bl (hasW zs d)) H
/-- x in a tuple of texts, x any data -/
theorem op_inT (hu : X.A.units + 64 < cLine) : OpR X (compareOp .In) (rInT X.K) := by
  intro pins s σ H x y v u Q I rx ry h
  obtain ⟨p, zs, d, rfl, hq, sh, q⟩ := h
  cases ry
  obtain ⟨its, r, pl, hz⟩ := I.tuple hq
  refine SeqAt.in_tupleAt (eS d) pl (fun w hw => ?_) ⟨.bl _, H, I, rfl, ?_⟩
  · have hu1 : X.A.in1.units < cLine := by show X.A.units + 1 < cLine; omega
    obtain ⟨i, hi⟩ := List.getElem?_of_mem (show w ∈ its by simpa using hw)
    obtain ⟨z, t, _, rfl⟩ := strs_vals r i w hi
    cases sh with
    | non =>
      cases rx
      exact SeqAt.EqAt.str_none z t
    | bl b =>
      cases rx
      exact SeqAt.EqAt.str_bool z t b
    | int i =>
      obtain ⟨t', rfl⟩ := rx
      exact SeqAt.EqAt.str_int z t i t'
    | str y =>
      obtain ⟨t', rfl⟩ := rx
      have e := SeqAt.EqAt.str_str (A := X.A.in1) (s := s) z t y t'
      have e2 : (z == y) = eS (.str y) (.str z t) := by
        show (z == y) = decide (y = z)
        by_cases e : y = z
        · subst e; simp
        · have : ¬ z = y := fun k => e k.symm
          simp [e, this]
      rw [e2] at e
      exact e
    | lst e _ =>
      cases rx
      obtain ⟨_, its2, n, rv, g⟩ := lst_get I.hok e
      exact SeqAt.EqAt.str_list z t ⟨_, g, rfl, _, rfl⟩ hu1
    | tup e _ =>
      cases rx
      obtain ⟨_, its2, rv, g⟩ := tup_get I.hok e
      exact SeqAt.EqAt.str_tuple z t g hu1
    | dct e =>
      cases rx
      obtain ⟨_, o, n, g, hc, hd⟩ := dct_get I.hok e
      exact str_dict z t g hc hd hu1
  · rw [show its.toArray.any (eS d) = its.any (eS d) by simp, any_eS d r]
    exact q
end
end K03

set_option autoImplicit false
set_option maxRecDepth 100000
set_option maxHeartbeats 4000000
/-! an atom -/
namespace K03
open PySem PySem.Spec PyProof.Rows L2 KX
section
variable {X : Cx}
def rNotInT (K : PySem.W.Frag) : R2 := fun x y H Q => ∃ p zs d, y = .ref p ∧ SqT K H p (zs.map V.str) ∧ Shw H x d ∧ Q (.bl (!hasW zs d)) H
/-- x not in a tuple of texts, x any data -/
theorem op_notInT (hu : X.A.units + 64 < cLine) : OpR X (compareOp .NotIn) (rNotInT X.K) := by
  intro pins s σ H x y v u Q I rx ry h
  obtain ⟨p, zs, d, rfl, hq, sh, q⟩ := h
  cases ry
  obtain ⟨its, r, pl, hz⟩ := I.tuple hq
  refine SeqAt.notIn_tupleAt (eS d) pl (fun w hw => ?_) ⟨.bl _, H, I, rfl, ?_⟩
  · have hu1 : X.A.in1.units < cLine := by show X.A.units + 1 < cLine; omega
    obtain ⟨i, hi⟩ := List.getElem?_of_mem (show w ∈ its by simpa using hw)
    obtain ⟨z, t, _, rfl⟩ := strs_vals r i w hi
    cases sh with
    | non =>
      cases rx
      exact SeqAt.EqAt.str_none z t
    | bl b =>
      cases rx
      exact SeqAt.EqAt.str_bool z t b
    | int i =>
      obtain ⟨t', rfl⟩ := rx
      exact SeqAt.EqAt.str_int z t i t'
    | str y =>
      obtain ⟨t', rfl⟩ := rx
      have e := SeqAt.EqAt.str_str (A := X.A.in1) (s := s) z t y t'
      have e2 : (z == y) = eS (.str y) (.str z t) := by
        show (z == y) = decide (y = z)
        by_cases e : y = z
        · subst e; simp
        · have : ¬ z = y := fun k => e k.symm
          simp [e, this]
      rw [e2] at e
      exact e
    | lst e _ =>
      cases rx
      obtain ⟨_, its2, n, rv, g⟩ := lst_get I.hok e
      exact SeqAt.EqAt.str_list z t ⟨_, g, rfl, _, rfl⟩ hu1
    | tup e _ =>
      cases rx
      obtain ⟨_, its2, rv, g⟩ := tup_get I.hok e
      exact SeqAt.EqAt.str_tuple z t g hu1
    | dct e =>
      cases rx
      obtain ⟨_, o, n, g, hc, hd⟩ := dct_get I.hok e
      exact str_dict z t g hc hd hu1
  · rw [show its.toArray.any (eS d) = its.any (eS d) by simp, any_eS d r]
    exact q
end
section
variable {K : PySem.W.Frag} {H : Hp} {Q : VK} {x : V} {ds : List PyData}
theorem cut_shw {lo hi : Option Int} (sx : Shw H x (.tuple ds)) (q : ∀ v H', Same H H' → Shw H' v (.tuple (cutA ds lo hi)) → Q v H') : rSlA K x lo hi H Q := by
  obtain ⟨a, xs, rfl, e1, r1⟩ := tup_get' sx
  have l1 := ShwAll.len r1
  refine ⟨a, xs, rfl, SqT.of e1, fun h => ?_, fun _ p np => ?_⟩
  · rw [l1] at h
    exact q _ H (Same.refl H) (by rw [cut_whole h]; exact sx)
  · have s := same_upd (p := p) (o := .tup (cutV xs lo hi)) np
    have r2 : ShwAll H (cutV xs lo hi) (cutA ds lo hi) := by
      unfold cutV cutA
      rw [l1]
      exact ShwAll.take _ (ShwAll.drop _ r1)
    exact q _ _ s (.tup upd_same (ShwAll.same r2 s))
end
abbrev sAtm : Stmt := topS 33
abbrev nAtm : List Str := ["frame", "value", "own", "term"]
theorem scAtm : FnScope nAtm ["frame", "value", "own"] (defScope sAtm) := ⟨rfl, rfl, rfl, by decide +kernel, rfl, by decide +kernel, by decide +kernel⟩
def atomK (ps : List (Str × Str)) (qs rs own : List Str) (z : Str) (ds : List PyData) : Bool := if z = "pos" then atomP ps qs rs own ds else atomV ps qs rs own ds
theorem isOp_has (d : PyData) : hasW opsW d = isOp d := by cases d <;> rfl
def spAtm (K : PySem.W.Frag) (C : Addr) : Sp := fun vs H Q _ => ∃ (p : Addr) (v1 v2 v3 : V) (ps : List (Str × Str)) (qs rs : List Str) (v : V) (z : Str) (ds : List PyData) (x : V) (own : List Str), vs = [.ref p, v, x] ∧ FrameAt C H p v1 v2 v3 ps qs rs ∧ Shw H v (.tuple (.str z :: ds)) ∧ TxK K H x own ∧
  ∀ H', Same H H' → Q (.bl (atomK ps qs rs own z ds)) H'
theorem atomK3 {ps : List (Str × Str)} {qs rs own : List Str} {z : Str} {op s t : PyData} : atomK ps qs rs own z [op, s, t] = (isOp op && (if z = "pos" then (isPos ps qs rs own s && isPos ps qs rs own t) else (isVal ps qs rs own s && isVal ps qs rs own t))) := by
  unfold atomK atomP atomV
  split <;> rfl
theorem cut2 {z : Str} {op s t : PyData} : cutA [.str z, op, s, t] (some 2) none = [s, t] := rfl
section
variable {P : Program} {w : World} {K : PySem.W.Frag} {mg : Str → Option Value} {base : Heap}
theorem ok_atm {f C TO : Addr} {fd : FuncData} (F : Fun K "is_atom" "is_atom" sAtm f fd) (B : Free mg) (gO : mg "OPS" = some (.ref TO)) (kO : ∀ H, SqT K H TO (opsW.map V.str))
    (PO : Fnc P w K mg base CX0 3 "is_position_over" ["frame", "value", "extra"] (spPos K C)) (VO : Fnc P w K mg base CX0 4 "is_value_over" ["frame", "value", "extra"] (spVal K C)) : FnOk P w K mg base CX0 5 f fd ["frame", "value", "own"] (spAtm K C) := by
  refine F.ok scAtm (fun vs H Q E h => ?_) (fun cdv A outer s H vs Q E hr h => ?_)
  · obtain ⟨p, v1, v2, v3, ps, qs, rs, v, z, ds, x, own, rfl, _⟩ := h
    rfl
  · obtain ⟨p, v1, v2, v3, ps, qs, rs, v, z, ds, x, own, rfl, Fr, sh, tx, q⟩ := h
    refine ⟨_, pss_cons (ps_if (PW.pt (pw_or (pt_cmpR op_ne (pe_callB call_len_seq (by rfl) B.len PySem.boot_len (pa_cons (pv 1) pa_nil)) pe_int (nomark _))
          (pw_or1 (pt_cmpR (op_notInT hr.units) (pe_ix ix_tup (pv 1) pe_int (fun _ _ => rfl)) (pe_glob (v := .ref TO) (by rfl) gO rfl) (by with_unfolding_all rfl)))))
        (pss_one (ps_ret pe_bl)) pss_nil)
      (pss_cons (ps_if (pt_cmpR op_eq (pe_ix ix_tup (pv 1) pe_int (fun _ _ => rfl)) pe_str (nomark _))
        (pss_one (ps_ret (pe_callB (cr_all rfl) (by rfl) B.all (by decide +kernel) (pa_cons (pe_lc (own := [("term", 3)]) (g := gName 3) (tt := tYes) rfl scAtm.nd (pi_tup (pe_slice sl_tupA (pv 1) (po_some pe_int) po_none)) (blkOk_by (N := nAtm) (sc := defScope sAtm) (by decide +kernel))
          (fun _ _ _ _ _ => pg_name (i := 3) scAtm.nd rfl (Or.inl rfl) (Or.inr rfl)) (fun _ _ _ _ _ => pts_nil) (fun _ _ _ _ _ => pe_fnc PO hr (by omega) (by rfl) pass0 (pa_cons (pv 0) (pa_cons (pv 3) (pa_cons (pv 2) pa_nil))))) pa_nil)))) pss_nil)
      (pss_one (ps_ret (pe_callB (cr_all rfl) (by rfl) B.all (by decide +kernel) (pa_cons (pe_lc (own := [("term", 3)]) (g := gName 3) (tt := tYes) rfl scAtm.nd (pi_tup (pe_slice sl_tupA (pv 1) (po_some pe_int) po_none)) (blkOk_by (N := nAtm) (sc := defScope sAtm) (by decide +kernel))
          (fun _ _ _ _ _ => pg_name (i := 3) scAtm.nd rfl (Or.inl rfl) (Or.inr rfl)) (fun _ _ _ _ _ => pts_nil) (fun _ _ _ _ _ => pe_fnc VO hr (by omega) (by rfl) pass0 (pa_cons (pv 0) (pa_cons (pv 3) (pa_cons (pv 2) pa_nil))))) pa_nil))))), ?_⟩
    obtain ⟨a, xs, rfl, e, ha⟩ : ∃ a xs, v = .ref a ∧ H a = some (.tup xs) ∧ ShwAll H xs (.str z :: ds) := by
      cases sh with
      | tup e r => exact ⟨_, _, rfl, e, r⟩
    have ln := ShwAll.len ha
    refine ⟨.ref a, rfl, a, xs, rfl, .inr (SqT.of e), rfl, _, rfl, ite2 (fun e1 => ?_) (fun e1 => ?_)⟩
    · have n3 : ds.length ≠ 3 := fun h => by
        have e1 : (!decide (V.int (xs.length : Nat) = V.int 4)) = true := e1
        rw [decide_eq_true (congrArg V.int (by rw [ln, List.length_cons, h]; rfl))] at e1
        cases e1
      have en : atomK ps qs rs own z ds = false := by
        unfold atomK
        match ds, n3 with
        | [], _ => split <;> rfl
        | [_], _ => split <;> rfl
        | [_, _], _ => split <;> rfl
        | [_, _, _], h => exact absurd rfl h
        | _ :: _ :: _ :: _ :: _, _ => split <;> rfl
      have qq := q H (Same.refl H)
      rw [en] at qq
      exact qq
    · have n3 : ds.length = 3 := by
        have e1 : ¬ (!decide (V.int (xs.length : Nat) = V.int 4)) = true := e1
        by_cases h : xs.length = 4
        · rw [ln, List.length_cons] at h
          omega
        · rw [decide_eq_false (fun k => h (by have := V.int.inj k; omega))] at e1
          exact absurd rfl e1
      match ds, n3 with
      | [op, s1, t1], _ =>
        cases ha with
        | @cons x0 _ _ _ h0 ha =>
          cases h0
          cases ha with
          | @cons x1 _ _ _ h1 ha =>
            cases ha with
            | @cons x2 _ _ _ h2 ha =>
              cases ha with
              | @cons x3 _ _ _ h3 ha =>
                cases ha
                refine ⟨.ref a, rfl, a, _, 1, x1, rfl, rfl, SqT.of e, rfl, TO, opsW, op, rfl, kO H, h1, _, rfl, ?_⟩
                rw [isOp_has]
                have fin : ∀ (T : PyData → Bool) (H' : Hp) (X0 : VK), True := fun _ _ _ => trivial
                cases eo : isOp op with
                | false =>
                  have en : atomK ps qs rs own z [op, s1, t1] = false := by
                    rw [atomK3, eo]
                    rfl
                  have qq := q H (Same.refl H)
                  rw [en] at qq
                  exact qq
                | true =>
                  refine ⟨.ref a, rfl, a, _, 0, .str z, rfl, rfl, SqT.of e, rfl, rfl, _, rfl, ite2 (fun e2 => ?_) (fun e2 => ?_)⟩
                  · have ez : z = "pos" := by
                      have := of_decide_eq_true e2
                      injection this
                    refine ⟨.ref a, rfl, 2, rfl, ?_⟩
                    show tNoPart _ _ _
                    unfold tNoPart
                    refine cut_shw sh fun c H1 w1 sc => ?_
                    rw [cut2] at sc
                    obtain ⟨b, ys, rfl, eb, sb⟩ : ∃ b ys, c = .ref b ∧ H1 b = some (.tup ys) ∧ ShwAll H1 ys [s1, t1] := by
                      cases sc with
                      | tup e r => exact ⟨_, _, rfl, e, r⟩
                    have lb := ShwAll.len sb
                    have Fr1 := Fr.same w1
                    have tx1 := tx.same w1
                    refine ⟨b, rfl, ⟨_, SqT.of eb⟩, fun D nD => ?_⟩
                    refine lc_tupD (K := K) (fun d => .bl (isPos ps qs rs own d)) eb nD (by rw [lb]; show 2 ≤ 100000; decide) sb (fun y d H' Q' hy hd shy s2 k => ⟨rfl, .ref p, rfl, y, rfl, x, rfl, p, v1, v2, v3, ps, qs, rs, y, d, x, own, rfl, Fr1.same s2, shy, tx1.same s2, fun H4 s4 => k H4 s4⟩) (fun H' s2 d2 => ?_)
                    refine ⟨D, [isPos ps qs rs own s1, isPos ps qs rs own t1], rfl, SqL.of d2, ?_⟩
                    have qq := q H' (w1.trans s2)
                    have en : atomK ps qs rs own z [op, s1, t1] = [isPos ps qs rs own s1, isPos ps qs rs own t1].all id := by
                      rw [atomK3, if_pos ez, eo]
                      simp
                    rw [en] at qq
                    exact qq
                  · have ez : ¬ z = "pos" := fun h => e2 (decide_eq_true (by rw [h]))
                    refine ⟨.ref a, rfl, 2, rfl, ?_⟩
                    show tNoPart _ _ _
                    unfold tNoPart
                    refine cut_shw sh fun c H1 w1 sc => ?_
                    rw [cut2] at sc
                    obtain ⟨b, ys, rfl, eb, sb⟩ : ∃ b ys, c = .ref b ∧ H1 b = some (.tup ys) ∧ ShwAll H1 ys [s1, t1] := by
                      cases sc with
                      | tup e r => exact ⟨_, _, rfl, e, r⟩
                    have lb := ShwAll.len sb
                    have Fr1 := Fr.same w1
                    have tx1 := tx.same w1
                    refine ⟨b, rfl, ⟨_, SqT.of eb⟩, fun D nD => ?_⟩
                    refine lc_tupD (K := K) (fun d => .bl (isVal ps qs rs own d)) eb nD (by rw [lb]; show 2 ≤ 100000; decide) sb (fun y d H' Q' hy hd shy s2 k => ⟨rfl, .ref p, rfl, y, rfl, x, rfl, p, v1, v2, v3, ps, qs, rs, y, d, x, own, rfl, Fr1.same s2, shy, tx1.same s2, fun H4 s4 => k H4 s4⟩) (fun H' s2 d2 => ?_)
                    refine ⟨D, [isVal ps qs rs own s1, isVal ps qs rs own t1], rfl, SqL.of d2, ?_⟩
                    have qq := q H' (w1.trans s2)
                    have en : atomK ps qs rs own z [op, s1, t1] = [isVal ps qs rs own s1, isVal ps qs rs own t1].all id := by
                      rw [atomK3, if_neg ez, eo]
                      simp
                    rw [en] at qq
                    exact qq
end
end K03

set_option autoImplicit false
set_option maxRecDepth 100000
set_option maxHeartbeats 4000000
/-! what a guard's atom, and a body's term, is asked besides -/
namespace K03
open PySem PySem.Spec PyProof.Rows L2 KX
abbrev sOu : Stmt := topS 40
theorem scOu : FnScope ["term", "own"] ["term", "own"] (defScope sOu) := ⟨rfl, rfl, rfl, by decide +kernel, rfl, by decide +kernel, by decide +kernel⟩
def spOu (K : PySem.W.Frag) : Sp := fun vs H Q _ => ∃ (ps : List (Str × Str)) (qs rs : List Str) (v : V) (d : PyData) (x : V) (own : List Str), vs = [v, x] ∧ Shw H v d ∧ isVal ps qs rs own d = true ∧ TxK K H x own ∧ Q (.bl (besideT own d)) H
theorem isIg_int {d : PyData} (h : isIg d = true) : ∃ i, d = .int i := by
  cases d with
  | int i => exact ⟨i, rfl⟩
  | _ => cases h
theorem isPos_is {ps : List (Str × Str)} {qs rs own : List Str} {d : PyData} (h : isPos ps qs rs own d = true) : ∃ z i, d = .tuple [.str z, .int i] := by
  match d, h with
  | .tuple [.str z, n], h =>
    have h : (isIg n && posW ps qs rs own z) = true := h
    rw [Bool.and_eq_true] at h
    obtain ⟨i, rfl⟩ := isIg_int h.1
    exact ⟨z, i, rfl⟩
theorem at1 (x y : V) (xs : List V) : atI (x :: y :: xs) 1 = some y := by
  unfold atI ixN
  simp
  rw [if_pos (by omega)]
  rfl
theorem shwT {H : Hp} {v : V} {ds : List PyData} (s : Shw H v (.tuple ds)) : ∃ b xs, v = .ref b ∧ H b = some (.tup xs) ∧ ShwAll H xs ds := by
  cases s with
  | tup e r => exact ⟨_, _, rfl, e, r⟩
section
variable {P : Program} {w : World} {K : PySem.W.Frag} {mg : Str → Option Value} {base : Heap}
abbrev sGa : Stmt := topS 38
abbrev nGa : List Str := ["atom", "own", "numbers", "word", "number"]
theorem scGa : FnScope nGa ["atom", "own"] (defScope sGa) := ⟨rfl, rfl, rfl, by decide +kernel, rfl, by decide +kernel, by decide +kernel⟩
def spGa (K : PySem.W.Frag) : Sp := fun vs H Q _ => ∃ (v : V) (z op w1 w2 : Str) (i j : Int) (x : V) (own : List Str), vs = [v, x] ∧ Shw H v (.tuple [.str z, .str op, .tuple [.str w1, .int i], .tuple [.str w2, .int j]]) ∧ TxK K H x own ∧
  ∀ H', Same H H' → Q (.bl (guardA own [.str op, .tuple [.str w1, .int i], .tuple [.str w2, .int j]])) H'
/-- the numbers of own names -/
def numsOf (own : List Str) (ts : List (Str × Int)) : List Int := (ts.filter fun t => decide (t.1 ∈ own)).map (·.2)
theorem guard_nums (own : List Str) (op w1 w2 : Str) (i j : Int) : guardA own [.str op, .tuple [.str w1, .int i], .tuple [.str w2, .int j]] = (!decide (op = "<") && (decide ((numsOf own [(w1, i), (w2, j)]).length > 0) && ((numsOf own [(w1, i), (w2, j)]).map fun n => decide (n = 0)).all id)) := by
  show (!decide (op = "<") && ((decide (w1 ∈ own) || decide (w2 ∈ own)) && ((!decide (w1 ∈ own) || decide (i = 0)) && (!decide (w2 ∈ own) || decide (j = 0))))) = _
  unfold numsOf
  by_cases h1 : w1 ∈ own <;> by_cases h2 : w2 ∈ own <;> simp [h1, h2]
theorem ok_ga {f : Addr} {fd : FuncData} (F : Fun K "is_guard_atom" "is_guard_atom" sGa f fd) (B : Free mg) : FnOk P w K mg base CX0 1 f fd ["atom", "own"] (spGa K) := by
  refine F.ok scGa (fun vs H Q E h => ?_) (fun cdv A outer s H vs Q E hr h => ?_)
  · obtain ⟨v, z, op, w1, w2, i, j, x, own, rfl, _⟩ := h
    rfl
  · obtain ⟨v, z, op, w1, w2, i, j, x, own, rfl, sh, tx, q⟩ := h
    refine ⟨_, pss_cons (ps_setLc (i := 2) (own := [("word", 3), ("number", 4)]) (g := gTup K 2 (gCons (gName 3) (gCons (gName 4) gNil))) rfl scGa.nd rfl rfl (sw_true rfl rfl rfl (by decide +kernel)) (pi_tup (pe_slice sl_tupA (pv 0) (po_some pe_int) po_none)) (blkOk_by (N := nGa) (sc := defScope sGa) (by decide +kernel))
        (fun _ _ _ _ _ => pg_tup rfl (pgs_cons (pg_name (i := 3) scGa.nd rfl (Or.inl rfl) (Or.inr rfl)) (pgs_cons (pg_name (i := 4) scGa.nd rfl (Or.inl rfl) (Or.inr rfl)) pgs_nil))) (fun _ _ _ _ _ => pts_one (pt_cmpR (r := rIn K false) op_in_seq (pv 3) (pv 1) (by with_unfolding_all rfl))) (fun _ _ _ _ _ => pv 4))
      (pss_one (ps_ret (pe_and (pe_cmpR op_ne (pe_ix ix_tup (pv 0) pe_int (fun _ _ => rfl)) pe_str (nomark _)) (pe_and (pe_cmpR op_gt (pe_callB call_len_seq (by rfl) B.len PySem.boot_len (pa_cons (pv 2) pa_nil)) pe_int (nomark _))
        (pe_one (pe_callB (cr_all rfl) (by rfl) B.all (by decide +kernel) (pa_cons (pe_lc (own := [("number", 4)]) (g := gName 4) (tt := tYes) rfl scGa.nd (pi_list (pv 2)) (blkOk_by (N := nGa) (sc := defScope sGa) (by decide +kernel))
          (fun _ _ _ _ _ => pg_name (i := 4) scGa.nd rfl (Or.inl rfl) (Or.inr rfl)) (fun _ _ _ _ _ => pts_nil) (fun _ _ _ _ _ => pe_cmpR op_eq (pv 4) pe_int (nomark _))) pa_nil))))))), ?_⟩
    obtain ⟨a, xs, rfl, e, ha⟩ : ∃ a xs, v = .ref a ∧ H a = some (.tup xs) ∧ ShwAll H xs [.str z, .str op, .tuple [.str w1, .int i], .tuple [.str w2, .int j]] := by
      cases sh with
      | tup e r => exact ⟨_, _, rfl, e, r⟩
    obtain ⟨xb, rfl, eb⟩ := id tx
    refine ⟨.ref a, rfl, 2, rfl, ?_⟩
    show tNoPart _ _ _
    unfold tNoPart
    refine cut_shw sh fun c H1 w1' sc => ?_
    rw [cut2] at sc
    obtain ⟨b, ys, rfl, eb1, sb⟩ : ∃ b ys, c = .ref b ∧ H1 b = some (.tup ys) ∧ ShwAll H1 ys [.tuple [.str w1, .int i], .tuple [.str w2, .int j]] := by
      cases sc with
      | tup e r => exact ⟨_, _, rfl, e, r⟩
    refine ⟨b, rfl, ⟨_, SqT.of eb1⟩, fun D nD => ?_⟩
    let ts : List (Str × Int) := [(w1, i), (w2, j)]
    obtain ⟨t1, t2, rfl, et1, et2⟩ : ∃ t1 t2, ys = [.ref t1, .ref t2] ∧ H1 t1 = some (.tup [.str w1, .int i]) ∧ H1 t2 = some (.tup [.str w2, .int j]) := by
      cases sb with
      | cons a1 r1 =>
        cases r1 with
        | cons a2 r2 =>
          cases r2
          obtain ⟨b1, xs1, rfl, g1, s1⟩ := shwT a1
          obtain ⟨b2, xs2, rfl, g2, s2⟩ := shwT a2
          refine ⟨b1, b2, rfl, ?_, ?_⟩
          · cases s1 with
            | cons c1 q1 =>
              cases c1
              cases q1 with
              | cons c2 q2 =>
                cases c2
                cases q2
                exact g1
          · cases s2 with
            | cons c1 q1 =>
              cases c1
              cases q1 with
              | cons c2 q2 =>
                cases c2
                cases q2
                exact g2
    have at_ : ∀ (m : Nat) (y : V), [V.ref t1, V.ref t2][m]? = some y → ∃ t ww n, ts[m]? = some (ww, n) ∧ y = .ref t ∧ H1 t = some (.tup [.str ww, .int n]) := fun m y hy => by
      match m, hy with
      | 0, hy =>
        obtain rfl : V.ref t1 = y := Option.some.inj hy
        exact ⟨t1, w1, i, rfl, rfl, et1⟩
      | 1, hy =>
        obtain rfl : V.ref t2 = y := Option.some.inj hy
        exact ⟨t2, w2, j, rfl, rfl, et2⟩
      | m + 2, hy => cases hy
    refine lc_tup (K := K) (a := b) (xs := [.ref t1, .ref t2]) (fun m H' => Same H1 H' ∧ H' D = some (.lst ((numsOf own (ts.take m)).map V.int))) ⟨same_upd nD, upd_same⟩ (fun m H' _ hP => SqT.of (hP.1 _ _ eb1)) (fun m y H' hm hP => ?_) (fun H' hP => ?_)
    · obtain ⟨s1, d1⟩ := hP
      obtain ⟨t, ww, n, ht, rfl, et⟩ := at_ m y hm
      have nx : numsOf own (ts.take (m + 1)) = numsOf own (ts.take m) ++ (if ww ∈ own then [n] else []) := by
        unfold numsOf
        rw [List.take_add_one, ht, List.filter_append, List.map_append]
        congr 1
        show ((([(ww, n)] : List (Str × Int)).filter fun t => decide (t.1 ∈ own)).map (·.2)) = _
        by_cases hw : ww ∈ own <;> simp [hw]
      refine ⟨t, _, rfl, SqT.of (s1 _ _ et), rfl, _, _, rfl, _, _, rfl, rfl, rfl, ?_⟩
      refine ⟨.str ww, rfl, .ref xb, rfl, xb, _, rfl, .inr (SqT.same eb (w1'.trans s1)), rfl, flat_strs _, _, rfl, ?_⟩
      rw [inV_strs]
      by_cases hw : ww ∈ own
      · refine iteT' (by rw [decide_eq_true hw]; rfl) ⟨_, rfl, _, d1, ?_, fun c o z => ?_, ?_⟩
        · rw [List.length_map, sizeLine_eq]
          have : (numsOf own (ts.take m)).length ≤ 2 := by
            unfold numsOf
            rw [List.length_map]
            refine Nat.le_trans (List.length_filter_le _ _) ?_
            rw [List.length_take]
            show min m 2 ≤ 2
            omega
          omega
        · rw [upd_ne (ne_of_none z nD)]
          exact s1 _ _ z
        · rw [upd_same, nx, if_pos hw, List.map_append]
          rfl
      · refine iteF' (by rw [decide_eq_false hw]; rfl) ⟨s1, ?_⟩
        rw [nx, if_neg hw, List.append_nil]
        exact d1
    · obtain ⟨s1, d1⟩ := hP
      have d1 : H' D = some (.lst ((numsOf own ts).map V.int)) := d1
      have w2' := w1'.trans s1
      have q2 : ∀ H4, Same H' H4 → Q (.bl (!decide (op = "<") && (decide ((numsOf own ts).length > 0) && ((numsOf own ts).map fun n => decide (n = 0)).all id))) H4 := fun H4 s4 => by
        have z := q H4 (w2'.trans s4)
        rw [guard_nums] at z
        exact z
      have l2 : (numsOf own ts).length ≤ 2 := by
        unfold numsOf
        rw [List.length_map]
        exact Nat.le_trans (List.length_filter_le _ _) (Nat.le_refl 2)
      generalize numsOf own ts = ns at d1 q2 l2
      cases ha with
      | cons h0 ha =>
        cases h0
        cases ha with
        | cons h1 ha =>
          cases h1
          refine ⟨.ref a, rfl, a, _, 1, .str op, rfl, rfl, SqT.of (w2' _ _ e), at1 _ _ _, rfl, _, rfl, ?_⟩
          have c0 : (!decide (V.str op = V.str "<")) = !decide (op = "<") := by
            congr 1
            exact decide_eq_decide.mpr ⟨fun k => V.str.inj k, fun k => congrArg V.str k⟩
          rw [c0]
          refine ite2 (fun e1 => ?_) (fun e1 => ?_)
          · refine ⟨.ref D, rfl, D, _, rfl, .inl (SqL.of d1), _, _, rfl, rfl, _, rfl, ?_⟩
            have c1 : decide ((((ns.map V.int).length : Nat) : Int) > 0) = decide (ns.length > 0) := decide_eq_decide.mpr (by rw [List.length_map]; omega)
            rw [c1]
            rw [e1, Bool.true_and] at q2
            refine ite2 (fun e2 => ?_) (fun e2 => ?_)
            · rw [e2, Bool.true_and] at q2
              refine ⟨.ref D, rfl, D, rfl, ⟨_, SqL.of d1⟩, fun D2 nD2 => ?_⟩
              refine lc_list (K := K) (a := D) (xs := ns.map V.int) (fun m H4 => Same H' H4 ∧ H4 D2 = some (.lst ((ns.take m).map fun n => V.bl (decide (n = 0))))) ⟨same_upd nD2, by rw [List.take_zero]; exact upd_same⟩ (fun m H4 _ hP => SqL.of (hP.1 _ _ d1)) (fun m y H4 hm hP => ?_) (fun H4 hP => ?_)
              · obtain ⟨s4, d4⟩ := hP
                rw [List.getElem?_map] at hm
                cases hn : ns[m]? with
                | none => rw [hn] at hm; cases hm
                | some n =>
                  rw [hn] at hm
                  obtain rfl : V.int n = y := Option.some.inj hm
                  have lm := (List.getElem?_eq_some_iff.mp hn).1
                  have c3 : decide (V.int n = V.int 0) = decide (n = 0) := decide_eq_decide.mpr ⟨fun k => V.int.inj k, fun k => congrArg V.int k⟩
                  refine ⟨rfl, .int n, rfl, rfl, ?_⟩
                  rw [c3]
                  refine ⟨_, d4, ?_, fun c o z => ?_, ?_⟩
                  · rw [List.length_map, List.length_take, sizeLine_eq]
                    omega
                  · rw [upd_ne (ne_of_none z nD2)]
                    exact s4 _ _ z
                  · rw [upd_same, List.take_add_one, hn, List.map_append]
                    rfl
              · obtain ⟨s4, d4⟩ := hP
                rw [List.length_map, List.take_length] at d4
                refine ⟨D2, ns.map fun n => decide (n = 0), rfl, SqL.of (by rw [d4, List.map_map]; rfl), ?_⟩
                exact q2 H4 s4
            · have e2 : decide (ns.length > 0) = false := by simpa using e2
              have z := q2 H' (Same.refl H')
              rw [e2] at z
              exact z
          · have e1 : (!decide (op = "<")) = false := by simpa using e1
            have z := q2 H' (Same.refl H')
            rw [e1] at z
            exact z
end
end K03

set_option autoImplicit false
set_option maxRecDepth 100000
set_option maxHeartbeats 4000000
/-! a body's term -/
namespace K03
open PySem PySem.Spec PyProof.Rows L2 KX
theorem isVal_is {ps : List (Str × Str)} {qs rs own : List Str} {d : PyData} (h : isVal ps qs rs own d = true) : (∃ x y, d = .tuple [x, y]) ∨ ∃ x z i n, d = .tuple [x, .str z, .int i, n] := by
  match d, h with
  | .tuple [x, y], _ => exact .inl ⟨x, y, rfl⟩
  | .tuple [x, y, i, n], h =>
    have hp : isPos ps qs rs own (.tuple [y, i]) = true := by
      cases e : isPos ps qs rs own (.tuple [y, i]) with
      | true => rfl
      | false =>
        have : isVal ps qs rs own (.tuple [x, y, i, n]) = false := by
          unfold isVal
          simp [e]
        rw [this] at h
        cases h
    obtain ⟨z, j, e⟩ := isPos_is hp
    injection e with e
    injection e with e1 e
    injection e with e2 _
    exact .inr ⟨x, z, j, n, by rw [e1, e2]⟩
section
variable {P : Program} {w : World} {K : PySem.W.Frag} {mg : Str → Option Value} {base : Heap}
theorem at2 (x y z : V) (xs : List V) : atI (x :: y :: z :: xs) 2 = some z := by
  unfold atI ixN
  simp
  rw [if_pos (by omega)]
  rfl
theorem ok_ou {f : Addr} {fd : FuncData} (F : Fun K "has_own_unshifted" "has_own_unshifted" sOu f fd) (B : Free mg) : FnOk P w K mg base CX0 1 f fd ["term", "own"] (spOu K) := by
  refine F.ok scOu (fun vs H Q E h => ?_) (fun cdv A outer s H vs Q E hr h => ?_)
  · obtain ⟨ps, qs, rs, v, d, x, own, rfl, _⟩ := h
    rfl
  · obtain ⟨ps, qs, rs, v, d, x, own, rfl, sh, iv, tx, q⟩ := h
    refine ⟨_, pss_one (ps_ret (pe_or (pe_cmpR op_eq (pe_callB call_len_seq (by rfl) B.len PySem.boot_len (pa_cons (pv 0) pa_nil)) pe_int (nomark _))
      (pe_or (pe_cmpR (r := rIn K true) op_notIn_seq (pe_ix ix_tup (pv 0) pe_int (fun _ _ => rfl)) (pv 1) (by with_unfolding_all rfl)) (pe_one (pe_cmpR op_eq (pe_ix ix_tup (pv 0) pe_int (fun _ _ => rfl)) pe_int (nomark _)))))), ?_⟩
    obtain ⟨xb, rfl, eb⟩ := tx
    rcases isVal_is iv with ⟨a, b, rfl⟩ | ⟨a, z, i, n, rfl⟩
    · obtain ⟨t, xs, rfl, et, sa⟩ := shwT sh
      have ln := ShwAll.len sa
      refine ⟨.ref t, rfl, t, xs, rfl, .inr (SqT.of et), rfl, _, rfl, ?_⟩
      have c1 : decide (V.int (xs.length : Nat) = V.int 2) = true := decide_eq_true (congrArg V.int (by rw [ln]; rfl))
      rw [c1]
      cases b <;> exact iteT q
    · obtain ⟨t, xs, rfl, et, sa⟩ := shwT sh
      cases sa with
      | cons h0 sa =>
        cases sa with
        | cons h1 sa =>
          cases h1
          cases sa with
          | cons h2 sa =>
            cases h2
            cases sa with
            | cons h3 sa =>
              cases sa
              refine ⟨.ref t, rfl, t, _, rfl, .inr (SqT.of et), rfl, _, rfl, ?_⟩
              refine iteF' (by rfl) ?_
              refine ⟨.ref t, rfl, t, _, 1, .str z, rfl, rfl, SqT.of et, at1 _ _ _, .ref xb, rfl, xb, _, rfl, .inr eb, rfl, flat_strs _, _, rfl, ?_⟩
              have ei : (if true = true then !inV (.str z) (own.map V.str) else inV (.str z) (own.map V.str)) = !decide (z ∈ own) := by rw [if_pos rfl, inV_strs]
              rw [ei]
              have q : Q (.bl (!decide (z ∈ own) || decide (i = 0))) H := q
              refine ite2 (fun e1 => ?_) (fun e1 => ?_)
              · rw [e1] at q
                exact q
              · have e1 : (!decide (z ∈ own)) = false := by simpa using e1
                rw [e1, Bool.false_or] at q
                refine ⟨.ref t, rfl, t, _, 2, .int i, rfl, rfl, SqT.of et, at2 _ _ _ _, rfl, ?_⟩
                have c3 : decide (V.int i = V.int 0) = decide (i = 0) := decide_eq_decide.mpr ⟨fun k => V.int.inj k, fun k => congrArg V.int k⟩
                rw [c3]
                exact q
end
end K03

set_option autoImplicit false
set_option maxRecDepth 100000
set_option maxHeartbeats 4000000
/-! guards -/
namespace K03
open PySem PySem.Spec PyProof.Rows L2 KX
abbrev sGd : Stmt := topS 37
abbrev nGd : List Str := ["frame", "value", "own", "depth", "part"]
theorem scGd : FnScope nGd ["frame", "value", "own", "depth"] (defScope sGd) := ⟨rfl, rfl, rfl, by decide +kernel, rfl, by decide +kernel, by decide +kernel⟩
def spGd (K : PySem.W.Frag) (C : Addr) (n : Nat) : Sp := fun vs H Q _ => ∃ (p : Addr) (v1 v2 v3 : V) (ps : List (Str × Str)) (qs rs : List Str) (v : V) (d : PyData) (x : V) (own : List Str), vs = [.ref p, v, x, .int n] ∧ FrameAt C H p v1 v2 v3 ps qs rs ∧ Shw H v d ∧ gd d = true ∧ TxK K H x own ∧ own.length ≤ 1000 ∧
  ∀ H', Same H H' → Q (.bl (jf ps qs rs n .guard own d)) H'
/-- the members of the one tuple behind the word -/
def allPt (T : PyData → Bool) : List PyData → Bool
  | [.tuple es] => es.all T
  | _ => false
theorem allPt_no {T : PyData → Bool} {z : Str} {ds : List PyData} (h : hasPt (.tuple (.str z :: ds)) = false) : allPt T ds = false := by
  match ds, h with
  | [], _ => rfl
  | [d], h => cases d <;> first | rfl | cases h
  | d :: _ :: _, _ => cases d <;> rfl
section
variable {ps : List (Str × Str)} {qs rs own : List Str}
theorem jf_odd {n : Nat} {k : Kd} {d : PyData} (h : isWd d = false) : jf ps qs rs n k own d = false := by
  cases n with
  | zero => rfl
  | succ n =>
    cases d with
    | tuple ds =>
      cases ds with
      | nil => rfl
      | cons x ds => cases x with
        | str z => cases h
        | _ => rfl
    | _ => rfl
theorem jf_guard {n : Nat} {z : Str} {ds : List PyData} (h : ¬ z = "pos") : jf ps qs rs (n + 1) .guard own (.tuple (.str z :: ds)) = (decide (z = "and" ∨ z = "or") && allPt (jf ps qs rs n .guard own) ds) := by
  simp only [jf, if_neg h]
  by_cases hv : z = "val"
  · subst hv
    rw [if_pos rfl]
    rfl
  · rw [if_neg hv]
    by_cases hn : z = "not"
    · subst hn
      rw [if_pos rfl]
      rfl
    · rw [if_neg hn]
      by_cases ha : z = "and" ∨ z = "or"
      · rw [if_pos ha, decide_eq_true ha, Bool.true_and]
        unfold allPt
        rfl
      · rw [if_neg ha, decide_eq_false ha, Bool.false_and]
        split <;> rfl
theorem jf_gpos {n : Nat} {ds : List PyData} : jf ps qs rs (n + 1) .guard own (.tuple (.str "pos" :: ds)) = (atomP ps qs rs own ds && guardA own ds) := by
  simp only [jf, if_pos]
  rfl
theorem atomP_is {ds : List PyData} (h : atomP ps qs rs own ds = true) : ∃ op w1 w2 i j, ds = [.str op, .tuple [.str w1, .int i], .tuple [.str w2, .int j]] := by
  match ds, h with
  | [o, s, t], h =>
    have h : (isOp o && (isPos ps qs rs own s && isPos ps qs rs own t)) = true := h
    rw [Bool.and_eq_true, Bool.and_eq_true] at h
    obtain ⟨w1, i, rfl⟩ := isPos_is h.2.1
    obtain ⟨w2, j, rfl⟩ := isPos_is h.2.2
    cases o with
    | str op => exact ⟨op, w1, w2, i, j, rfl⟩
    | _ => cases h.1
theorem wd_is {d : PyData} (h : isWd d = true) : ∃ z ds, d = .tuple (.str z :: ds) := by
  match d, h with
  | .tuple (.str z :: ds), _ => exact ⟨z, ds, rfl⟩
theorem inV_ao (z : Str) : (if true = true then !inV (.str z) [.str "and", .str "or"] else inV (.str z) [.str "and", .str "or"]) = !decide (z = "and" ∨ z = "or") := by
  rw [if_pos rfl]
  have := inV_strs z ["and", "or"]
  simp only [List.map_cons, List.map_nil] at this
  rw [this]
  simp
end
section
variable {P : Program} {w : World} {K : PySem.W.Frag} {mg : Str → Option Value} {base : Heap}
theorem ok_gd {f C : Addr} {fd : FuncData} (F : Fun K "is_guard" "is_guard" sGd f fd) (hb : Binds K fd ["frame", "value", "own", "depth"] []) (hm : mg "is_guard" = some (.ref f)) (B : Free mg)
    (Wd : Fnc P w K mg base CX0 1 "is_worded" ["value"] spWd) (Pt : Fnc P w K mg base CX0 1 "has_parts" ["value"] spPt) (At : Fnc P w K mg base CX0 5 "is_atom" ["frame", "value", "own"] (spAtm K C)) (Ga : Fnc P w K mg base CX0 1 "is_guard_atom" ["atom", "own"] (spGa K)) :
    ∀ n, FnOk P w K mg base CX0 (6 + n) f fd ["frame", "value", "own", "depth"] (spGd K C n)
  | 0 => by
    show FnOk P w K mg base CX0 (5 + 1) f fd _ _
    refine F.ok scGd (fun vs H Q E h => ?_) (fun cdv A outer s H vs Q E hr h => ?_)
    · obtain ⟨p, v1, v2, v3, ps, qs, rs, v, d, x, own, rfl, _⟩ := h
      rfl
    · obtain ⟨p, v1, v2, v3, ps, qs, rs, v, d, x, own, rfl, Fr, sh, g, tx, lo, q⟩ := h
      refine ⟨_, pss_cons (ps_if (PW.pt (pw_or (pt_cmpR op_eq (pv 3) pe_int (nomark _)) (pw_or1 (pt_not (pt_val (pe_fnc Wd hr (by omega) (by rfl) pass0 (pa_cons (pv 1) pa_nil))))))) (pss_one (ps_ret pe_bl)) pss_nil)
        (pss_cons ps_never (pss_cons ps_never (pss_one ps_never))), ?_⟩
      exact ⟨.int 0, rfl, rfl, _, rfl, iteT (q H (Same.refl H))⟩
  | n + 1 => by
    have ih := ok_gd F hb hm B Wd Pt At Ga n
    have Rc : Fnc P w K mg base CX0 (6 + n) "is_guard" ["frame", "value", "own", "depth"] (spGd K C n) := ⟨⟨f, fd, ih, hb, hm, F.kp⟩⟩
    show FnOk P w K mg base CX0 ((6 + n) + 1) f fd _ _
    refine F.ok scGd (fun vs H Q E h => ?_) (fun cdv A outer s H vs Q E hr h => ?_)
    · obtain ⟨p, v1, v2, v3, ps, qs, rs, v, d, x, own, rfl, _⟩ := h
      rfl
    · obtain ⟨p, v1, v2, v3, ps, qs, rs, v, d, x, own, rfl, Fr, sh, g, tx, lo, q⟩ := h
      refine ⟨_, pss_cons (ps_if (PW.pt (pw_or (pt_cmpR op_eq (pv 3) pe_int (nomark _)) (pw_or1 (pt_not (pt_val (pe_fnc Wd hr (by omega) (by rfl) pass0 (pa_cons (pv 1) pa_nil))))))) (pss_one (ps_ret pe_bl)) pss_nil)
        (pss_cons (ps_if (pt_cmpR op_eq (pe_ix ix_tup (pv 1) pe_int (fun _ _ => rfl)) pe_str (nomark _))
          (pss_one (ps_ret (pe_and (pe_fnc At hr (by omega) (by rfl) pass0 (pa_cons (pv 0) (pa_cons (pv 1) (pa_cons (pv 2) pa_nil)))) (pe_one (pe_fnc Ga hr (by omega) (by rfl) pass0 (pa_cons (pv 1) (pa_cons (pv 2) pa_nil))))))) pss_nil)
        (pss_cons (ps_if (PW.pt (pw_or (pt_cmpR (r := rIn K true) op_notIn_seq (pe_ix ix_tup (pv 1) pe_int (fun _ _ => rfl)) (pe_tup (pa_cons pe_str (pa_cons pe_str pa_nil))) (by with_unfolding_all rfl)) (pw_or1 (pt_not (pt_val (pe_fnc Pt hr (by omega) (by rfl) pass0 (pa_cons (pv 1) pa_nil))))))) (pss_one (ps_ret pe_bl)) pss_nil)
        (pss_one (ps_ret (pe_callB (cr_all rfl) (by rfl) B.all (by decide +kernel) (pa_cons (pe_lc (own := [("part", 4)]) (g := gName 4) (tt := tYes) rfl scGd.nd (pi_tup (pe_ix (r := rIxT K) ix_tup (pv 1) pe_int (fun _ _ => rfl))) (blkOk_by (N := nGd) (sc := defScope sGd) (by decide +kernel))
          (fun _ _ _ _ _ => pg_name (i := 4) scGd.nd rfl (Or.inl rfl) (Or.inr rfl)) (fun _ _ _ _ _ => pts_nil) (fun _ _ _ _ _ => pe_fnc Rc hr (by omega) (by rfl) pass0 (pa_cons (pv 0) (pa_cons (pv 4) (pa_cons (pv 2) (pa_cons (pe_op op_sub (pv 3) pe_int) pa_nil)))))) pa_nil)))))), ?_⟩
      refine ⟨.int ((n + 1 : Nat) : Int), rfl, rfl, _, rfl, ?_⟩
      refine iteF' (decide_eq_false fun k => by have := V.int.inj k; omega) ?_
      refine ⟨v, rfl, v, d, rfl, sh, _, rfl, ?_⟩
      cases ew : isWd d with
      | false =>
        have qq := q H (Same.refl H)
        rw [jf_odd ew] at qq
        exact qq
      | true =>
        obtain ⟨z, ds, rfl⟩ := wd_is ew
        obtain ⟨a, xs, rfl, e, ha⟩ := shwT sh
        cases ha with
        | @cons x0 xs' _ _ h0 ha =>
          cases h0
          refine ⟨.ref a, rfl, a, _, 0, .str z, rfl, rfl, SqT.of e, at0 _ _, rfl, _, rfl, ite2 (fun e1 => ?_) (fun e1 => ?_)⟩
          · obtain rfl : z = "pos" := by
              have := of_decide_eq_true e1
              injection this
            refine ⟨.ref p, rfl, .ref a, rfl, x, rfl, p, v1, v2, v3, ps, qs, rs, .ref a, "pos", ds, x, own, rfl, Fr, sh, tx, fun H1 w1 => ⟨_, rfl, ?_⟩⟩
            have ea : atomK ps qs rs own "pos" ds = atomP ps qs rs own ds := if_pos rfl
            rw [ea]
            cases eA : atomP ps qs rs own ds with
            | false =>
              have qq := q H1 w1
              rw [jf_gpos, eA] at qq
              exact qq
            | true =>
              obtain ⟨op, u1, u2, i, j, rfl⟩ := atomP_is eA
              refine iteT ⟨.ref a, rfl, x, rfl, .ref a, "pos", op, u1, u2, i, j, x, own, rfl, Shw.same sh w1, tx.same w1, fun H2 w2 => ?_⟩
              have qq := q H2 (w1.trans w2)
              rw [jf_gpos, eA, Bool.true_and] at qq
              exact qq
          · have ez : ¬ z = "pos" := fun h => e1 (decide_eq_true (by rw [h]))
            refine ⟨.ref a, rfl, a, _, 0, .str z, rfl, rfl, SqT.of e, at0 _ _, by rw [sizeLine_eq]; show 2 ≤ 16777216; decide, fun t nt => ?_⟩
            have st := same_upd (p := t) (o := .tup [.str "and", .str "or"]) nt
            refine ⟨t, _, rfl, .inr (SqT.of upd_same), rfl, rfl, _, rfl, ?_⟩
            rw [inV_ao]
            generalize upd H t (.tup [.str "and", .str "or"]) = H1 at st ⊢
            have q1 : ∀ H', Same H1 H' → Q (.bl (decide (z = "and" ∨ z = "or") && allPt (jf ps qs rs n .guard own) ds)) H' := fun H' s' => by
              have qq := q H' (st.trans s')
              rw [jf_guard ez] at qq
              exact qq
            by_cases hz : z = "and" ∨ z = "or"
            · rw [decide_eq_true hz] at q1 ⊢
              refine iteF ?_
              have sh1 := Shw.same sh st
              refine ⟨.ref a, rfl, .ref a, _, rfl, sh1, _, rfl, ?_⟩
              cases ep : hasPt (.tuple (.str z :: ds)) with
              | false =>
                have en := allPt_no (T := jf ps qs rs n .guard own) ep
                have qq := q1 H1 (Same.refl H1)
                rw [en] at qq
                exact qq
              | true =>
                obtain ⟨es, rfl⟩ : ∃ es, ds = [.tuple es] := by
                  match ds, ep with
                  | [.tuple es], _ => exact ⟨es, rfl⟩
                cases ha with
                | @cons x1 _ _ _ h1 ha =>
                  cases ha
                  obtain ⟨b, ys, rfl, eb, sb⟩ := shwT (Shw.same h1 st)
                  have gE : gdAll es = true ∧ es.length ≤ 1000 := by
                    simp only [gd, gdAll, Bool.and_eq_true, decide_eq_true_eq] at g
                    exact ⟨g.2.2.1.2, g.2.2.1.1⟩
                  have lb := ShwAll.len sb
                  refine ⟨.ref a, rfl, a, _, 1, .ref b, rfl, rfl, SqT.of (st _ _ e), at1 _ _ _, b, rfl, ⟨_, SqT.of eb⟩, fun D nD => ?_⟩
                  have Fr1 := Fr.same st
                  have tx1 := tx.same st
                  refine lc_tupD (K := K) (fun d => .bl (jf ps qs rs n .guard own d)) eb nD (by rw [lb]; omega) sb (fun y d H' Q' hy hd shy s2 k => ?_) (fun H' s2 d2 => ?_)
                  · refine ⟨rfl, .ref p, rfl, y, rfl, x, rfl, .int ((n + 1 : Nat) : Int), rfl, _, _, rfl, rfl, ?_⟩
                    refine ⟨p, v1, v2, v3, ps, qs, rs, y, d, x, own, ?_, Fr1.same s2, shy, gdAll_mem gE.1 hd, tx1.same s2, lo, fun H4 s4 => k H4 s4⟩
                    have : ((n + 1 : Nat) : Int) - 1 = (n : Int) := by omega
                    show [V.ref p, y, x, V.int (((n + 1 : Nat) : Int) - 1)] = _
                    rw [this]
                  · refine ⟨D, es.map (jf ps qs rs n .guard own), rfl, SqL.of (by rw [d2, List.map_map]; rfl), ?_⟩
                    have qq := q1 H' s2
                    have en : (true && es.all (jf ps qs rs n .guard own)) = (es.map (jf ps qs rs n .guard own)).all id := by
                      rw [Bool.true_and, List.all_map]
                      rfl
                    rw [← en]
                    exact qq
            · rw [decide_eq_false hz] at q1 ⊢
              refine iteT ?_
              exact q1 H1 (Same.refl H1)
end
end K03

set_option autoImplicit false
set_option maxRecDepth 100000
set_option maxHeartbeats 4000000
/-! bodies -/
namespace K03
open PySem PySem.Spec PyProof.Rows L2 KX
abbrev sBd : Stmt := topS 39
abbrev nBd : List Str := ["frame", "value", "own", "depth", "word", "term", "part"]
theorem scBd : FnScope nBd ["frame", "value", "own", "depth"] (defScope sBd) := ⟨rfl, rfl, rfl, by decide +kernel, rfl, by decide +kernel, by decide +kernel⟩
def spBd (K : PySem.W.Frag) (C : Addr) (n : Nat) : Sp := fun vs H Q _ => ∃ (p : Addr) (v1 v2 v3 : V) (ps : List (Str × Str)) (qs rs : List Str) (v : V) (d : PyData) (x : V) (own : List Str), vs = [.ref p, v, x, .int n] ∧ FrameAt C H p v1 v2 v3 ps qs rs ∧ Shw H v d ∧ gd d = true ∧ TxK K H x own ∧ own.length ≤ 1000 ∧
  ∀ H', Same H H' → Q (.bl (jf ps qs rs n .body own d)) H'
section
variable {ps : List (Str × Str)} {qs rs own : List Str}
theorem jf_body {n : Nat} {z : Str} {ds : List PyData} (hv : ¬ z = "val") (hn : ¬ z = "not") : jf ps qs rs (n + 1) .body own (.tuple (.str z :: ds)) = (decide (z = "and" ∨ z = "or") && allPt (jf ps qs rs n .body own) ds) := by
  simp only [jf]
  by_cases hp : z = "pos"
  · subst hp
    rw [if_pos rfl]
    rfl
  · rw [if_neg hp, if_neg hv, if_neg hn]
    by_cases ha : z = "and" ∨ z = "or"
    · rw [if_pos ha, decide_eq_true ha, Bool.true_and]
      unfold allPt
      rfl
    · rw [if_neg ha, decide_eq_false ha, Bool.false_and]
      split <;> rfl
theorem jf_bval {n : Nat} {ds : List PyData} : jf ps qs rs (n + 1) .body own (.tuple (.str "val" :: ds)) = (atomV ps qs rs own ds && bodyA own ds) := by
  simp only [jf, if_pos]
  rfl
theorem jf_bnot {n : Nat} {d : PyData} : jf ps qs rs (n + 1) .body own (.tuple [.str "not", d]) = jf ps qs rs n .body own d := by
  show (decide (Kd.body ≠ Kd.guard) && jf ps qs rs n .body own d) = _
  rw [decide_eq_true (by decide), Bool.true_and]
theorem jf_bnot2 {n : Nat} {ds : List PyData} (h : ds.length ≠ 1) : jf ps qs rs (n + 1) .body own (.tuple (.str "not" :: ds)) = false := by
  match ds, h with
  | [], _ => rfl
  | [_], h => exact absurd rfl h
  | _ :: _ :: _, _ => rfl
theorem atomV_is {ds : List PyData} (h : atomV ps qs rs own ds = true) : ∃ o s t, ds = [o, s, t] ∧ isVal ps qs rs own s = true ∧ isVal ps qs rs own t = true := by
  match ds, h with
  | [o, s, t], h =>
    have h : (isOp o && (isVal ps qs rs own s && isVal ps qs rs own t)) = true := h
    rw [Bool.and_eq_true, Bool.and_eq_true] at h
    exact ⟨o, s, t, rfl, h.2.1, h.2.2⟩
end
section
variable {P : Program} {w : World} {K : PySem.W.Frag} {mg : Str → Option Value} {base : Heap}
theorem ok_bd {f C : Addr} {fd : FuncData} (F : Fun K "is_body" "is_body" sBd f fd) (hb : Binds K fd ["frame", "value", "own", "depth"] []) (hm : mg "is_body" = some (.ref f)) (B : Free mg)
    (Wd : Fnc P w K mg base CX0 1 "is_worded" ["value"] spWd) (Pt : Fnc P w K mg base CX0 1 "has_parts" ["value"] spPt) (At : Fnc P w K mg base CX0 5 "is_atom" ["frame", "value", "own"] (spAtm K C)) (Ou : Fnc P w K mg base CX0 1 "has_own_unshifted" ["term", "own"] (spOu K)) :
    ∀ n, FnOk P w K mg base CX0 (6 + n) f fd ["frame", "value", "own", "depth"] (spBd K C n)
  | 0 => by
    show FnOk P w K mg base CX0 (5 + 1) f fd _ _
    refine F.ok scBd (fun vs H Q E h => ?_) (fun cdv A outer s H vs Q E hr h => ?_)
    · obtain ⟨p, v1, v2, v3, ps, qs, rs, v, d, x, own, rfl, _⟩ := h
      rfl
    · obtain ⟨p, v1, v2, v3, ps, qs, rs, v, d, x, own, rfl, Fr, sh, g, tx, lo, q⟩ := h
      refine ⟨_, pss_cons (ps_if (PW.pt (pw_or (pt_cmpR op_eq (pv 3) pe_int (nomark _)) (pw_or1 (pt_not (pt_val (pe_fnc Wd hr (by omega) (by rfl) pass0 (pa_cons (pv 1) pa_nil))))))) (pss_one (ps_ret pe_bl)) pss_nil)
        (pss_cons ps_never (pss_cons ps_never (pss_cons ps_never (pss_cons ps_never (pss_one ps_never))))), ?_⟩
      exact ⟨.int 0, rfl, rfl, _, rfl, iteT (q H (Same.refl H))⟩
  | n + 1 => by
    have ih := ok_bd F hb hm B Wd Pt At Ou n
    have Rc : Fnc P w K mg base CX0 (6 + n) "is_body" ["frame", "value", "own", "depth"] (spBd K C n) := ⟨⟨f, fd, ih, hb, hm, F.kp⟩⟩
    show FnOk P w K mg base CX0 ((6 + n) + 1) f fd _ _
    refine F.ok scBd (fun vs H Q E h => ?_) (fun cdv A outer s H vs Q E hr h => ?_)
    · obtain ⟨p, v1, v2, v3, ps, qs, rs, v, d, x, own, rfl, _⟩ := h
      rfl
    · obtain ⟨p, v1, v2, v3, ps, qs, rs, v, d, x, own, rfl, Fr, sh, g, tx, lo, q⟩ := h
      refine ⟨_, pss_cons (ps_if (PW.pt (pw_or (pt_cmpR op_eq (pv 3) pe_int (nomark _)) (pw_or1 (pt_not (pt_val (pe_fnc Wd hr (by omega) (by rfl) pass0 (pa_cons (pv 1) pa_nil))))))) (pss_one (ps_ret pe_bl)) pss_nil)
        (pss_cons (ps_set (i := 4) scBd.nd rfl (.inl rfl) (pe_ix ix_tup (pv 1) pe_int (fun _ _ => rfl)))
        (pss_cons (ps_if (pt_cmpR op_eq (pv 4) pe_str (nomark _))
          (pss_one (ps_ret (pe_and (pe_fnc At hr (by omega) (by rfl) pass0 (pa_cons (pv 0) (pa_cons (pv 1) (pa_cons (pv 2) pa_nil)))) (pe_one (pe_callB (cr_all rfl) (by rfl) B.all (by decide +kernel) (pa_cons (pe_lc (own := [("term", 5)]) (g := gName 5) (tt := tYes) rfl scBd.nd (pi_tup (pe_slice sl_tupA (pv 1) (po_some pe_int) po_none)) (blkOk_by (N := nBd) (sc := defScope sBd) (by decide +kernel))
            (fun _ _ _ _ _ => pg_name (i := 5) scBd.nd rfl (Or.inl rfl) (Or.inr rfl)) (fun _ _ _ _ _ => pts_nil) (fun _ _ _ _ _ => pe_fnc Ou hr (by omega) (by rfl) pass0 (pa_cons (pv 5) (pa_cons (pv 2) pa_nil)))) pa_nil)))))) pss_nil)
        (pss_cons (ps_if (pt_cmpR op_eq (pv 4) pe_str (nomark _))
          (pss_one (ps_ret (pe_and (pe_cmpR op_eq (pe_callB call_len_seq (by rfl) B.len PySem.boot_len (pa_cons (pv 1) pa_nil)) pe_int (nomark _)) (pe_one (pe_fnc Rc hr (by omega) (by rfl) pass0 (pa_cons (pv 0) (pa_cons (pe_ix ix_tup (pv 1) pe_int (fun _ _ => rfl)) (pa_cons (pv 2) (pa_cons (pe_op op_sub (pv 3) pe_int) pa_nil))))))))) pss_nil)
        (pss_cons (ps_if (PW.pt (pw_or (pt_cmpR (r := rIn K true) op_notIn_seq (pv 4) (pe_tup (pa_cons pe_str (pa_cons pe_str pa_nil))) (by with_unfolding_all rfl)) (pw_or1 (pt_not (pt_val (pe_fnc Pt hr (by omega) (by rfl) pass0 (pa_cons (pv 1) pa_nil))))))) (pss_one (ps_ret pe_bl)) pss_nil)
        (pss_one (ps_ret (pe_callB (cr_all rfl) (by rfl) B.all (by decide +kernel) (pa_cons (pe_lc (own := [("part", 6)]) (g := gName 6) (tt := tYes) rfl scBd.nd (pi_tup (pe_ix (r := rIxT K) ix_tup (pv 1) pe_int (fun _ _ => rfl))) (blkOk_by (N := nBd) (sc := defScope sBd) (by decide +kernel))
          (fun _ _ _ _ _ => pg_name (i := 6) scBd.nd rfl (Or.inl rfl) (Or.inr rfl)) (fun _ _ _ _ _ => pts_nil) (fun _ _ _ _ _ => pe_fnc Rc hr (by omega) (by rfl) pass0 (pa_cons (pv 0) (pa_cons (pv 6) (pa_cons (pv 2) (pa_cons (pe_op op_sub (pv 3) pe_int) pa_nil)))))) pa_nil)))))))), ?_⟩
      have en1 : ((n + 1 : Nat) : Int) - 1 = (n : Int) := by omega
      refine ⟨.int ((n + 1 : Nat) : Int), rfl, rfl, _, rfl, ?_⟩
      refine iteF' (decide_eq_false fun k => by have := V.int.inj k; omega) ?_
      refine ⟨v, rfl, v, d, rfl, sh, _, rfl, ?_⟩
      cases ew : isWd d with
      | false =>
        have qq := q H (Same.refl H)
        rw [jf_odd ew] at qq
        exact qq
      | true =>
        obtain ⟨z, ds, rfl⟩ := wd_is ew
        obtain ⟨a, xs, rfl, e, ha⟩ := shwT sh
        have ln := ShwAll.len ha
        cases ha with
        | @cons x0 xs' _ _ h0 ha =>
          cases h0
          refine ⟨.ref a, rfl, a, _, 0, .str z, rfl, rfl, SqT.of e, at0 _ _, ?_⟩
          refine ⟨.str z, rfl, rfl, _, rfl, ite2 (fun e1 => ?_) (fun e1 => ?_)⟩
          · obtain rfl : z = "val" := by
              have := of_decide_eq_true e1
              injection this
            refine ⟨.ref p, rfl, .ref a, rfl, x, rfl, p, v1, v2, v3, ps, qs, rs, .ref a, "val", ds, x, own, rfl, Fr, sh, tx, fun H1 w1 => ⟨_, rfl, ?_⟩⟩
            have ea : atomK ps qs rs own "val" ds = atomV ps qs rs own ds := if_neg (by decide)
            rw [ea]
            cases eA : atomV ps qs rs own ds with
            | false =>
              have qq := q H1 w1
              rw [jf_bval, eA] at qq
              exact qq
            | true =>
              obtain ⟨o, s1, t1, rfl, i1, i2⟩ := atomV_is eA
              refine iteT ⟨.ref a, rfl, 2, rfl, ?_⟩
              show tNoPart _ _ _
              unfold tNoPart
              refine cut_shw (Shw.same sh w1) fun c H2 w2 sc => ?_
              rw [cut2] at sc
              obtain ⟨b, ys, rfl, eb, sb⟩ := shwT sc
              have lb := ShwAll.len sb
              refine ⟨b, rfl, ⟨_, SqT.of eb⟩, fun D nD => ?_⟩
              have w12 := w1.trans w2
              refine lc_tupD (K := K) (fun d => .bl (besideT own d)) eb nD (by rw [lb]; show 2 ≤ 100000; decide) sb (fun y d H' Q' hy hd shy s3 k => ⟨rfl, y, rfl, x, rfl, ps, qs, rs, y, d, x, own, rfl, shy, ?_, tx.same (w12.trans s3), k H' (Same.refl H')⟩) (fun H' s3 d3 => ?_)
              · simp only [List.mem_cons, List.not_mem_nil, or_false] at hd
                rcases hd with rfl | rfl
                · exact i1
                · exact i2
              · refine ⟨D, [besideT own s1, besideT own t1], rfl, SqL.of d3, ?_⟩
                have qq := q H' (w12.trans s3)
                rw [jf_bval, eA, Bool.true_and] at qq
                have en : bodyA own [o, s1, t1] = [besideT own s1, besideT own t1].all id := by
                  show (besideT own s1 && besideT own t1) = _
                  simp
                rw [en] at qq
                exact qq
          · have hv : ¬ z = "val" := fun h => e1 (decide_eq_true (by rw [h]))
            refine ⟨.str z, rfl, rfl, _, rfl, ite2 (fun e2 => ?_) (fun e2 => ?_)⟩
            · obtain rfl : z = "not" := by
                have := of_decide_eq_true e2
                injection this
              refine ⟨.ref a, rfl, a, _, rfl, .inr (SqT.of e), rfl, _, rfl, ite2 (fun e3 => ?_) (fun e3 => ?_)⟩
              · have l1 : ds.length = 1 := by
                  have h := V.int.inj (of_decide_eq_true e3)
                  rw [ln, List.length_cons] at h
                  omega
                match ds, l1 with
                | [d], _ =>
                  cases ha with
                  | @cons x1 _ _ _ h1 ha =>
                    cases ha
                    refine ⟨.ref p, rfl, .ref a, rfl, a, _, 1, x1, rfl, rfl, SqT.of e, at1 _ _ _, x, rfl, .int ((n + 1 : Nat) : Int), rfl, _, _, rfl, rfl, ?_⟩
                    have gD : gd d = true := by
                      simp only [gd, gdAll, Bool.and_eq_true] at g
                      exact g.2.2.1
                    refine ⟨p, v1, v2, v3, ps, qs, rs, x1, d, x, own, ?_, Fr, h1, gD, tx, lo, fun H4 s4 => ?_⟩
                    · show [V.ref p, x1, x, V.int (((n + 1 : Nat) : Int) - 1)] = _
                      rw [en1]
                    · have qq := q H4 s4
                      rw [jf_bnot] at qq
                      exact qq
              · have l1 : ds.length ≠ 1 := fun h => e3 (decide_eq_true (congrArg V.int (by rw [ln, List.length_cons, h]; rfl)))
                have qq := q H (Same.refl H)
                rw [jf_bnot2 l1] at qq
                exact qq
            · have hn : ¬ z = "not" := fun h => e2 (decide_eq_true (by rw [h]))
              refine ⟨.str z, rfl, by rw [sizeLine_eq]; show 2 ≤ 16777216; decide, fun t nt => ?_⟩
              have st := same_upd (p := t) (o := .tup [.str "and", .str "or"]) nt
              refine ⟨t, _, rfl, .inr (SqT.of upd_same), rfl, rfl, _, rfl, ?_⟩
              rw [inV_ao]
              generalize upd H t (.tup [.str "and", .str "or"]) = H1 at st ⊢
              have q1 : ∀ H', Same H1 H' → Q (.bl (decide (z = "and" ∨ z = "or") && allPt (jf ps qs rs n .body own) ds)) H' := fun H' s' => by
                have qq := q H' (st.trans s')
                rw [jf_body hv hn] at qq
                exact qq
              by_cases hz : z = "and" ∨ z = "or"
              · rw [decide_eq_true hz] at q1 ⊢
                refine iteF ?_
                have sh1 := Shw.same sh st
                refine ⟨.ref a, rfl, .ref a, _, rfl, sh1, _, rfl, ?_⟩
                cases ep : hasPt (.tuple (.str z :: ds)) with
                | false =>
                  have en := allPt_no (T := jf ps qs rs n .body own) ep
                  have qq := q1 H1 (Same.refl H1)
                  rw [en] at qq
                  exact qq
                | true =>
                  obtain ⟨es, rfl⟩ : ∃ es, ds = [.tuple es] := by
                    match ds, ep with
                    | [.tuple es], _ => exact ⟨es, rfl⟩
                  cases ha with
                  | @cons x1 _ _ _ h1 ha =>
                    cases ha
                    obtain ⟨b, ys, rfl, eb, sb⟩ := shwT (Shw.same h1 st)
                    have gE : gdAll es = true ∧ es.length ≤ 1000 := by
                      simp only [gd, gdAll, Bool.and_eq_true, decide_eq_true_eq] at g
                      exact ⟨g.2.2.1.2, g.2.2.1.1⟩
                    have lb := ShwAll.len sb
                    refine ⟨.ref a, rfl, a, _, 1, .ref b, rfl, rfl, SqT.of (st _ _ e), at1 _ _ _, b, rfl, ⟨_, SqT.of eb⟩, fun D nD => ?_⟩
                    have Fr1 := Fr.same st
                    have tx1 := tx.same st
                    refine lc_tupD (K := K) (fun d => .bl (jf ps qs rs n .body own d)) eb nD (by rw [lb]; omega) sb (fun y d H' Q' hy hd shy s2 k => ?_) (fun H' s2 d2 => ?_)
                    · refine ⟨rfl, .ref p, rfl, y, rfl, x, rfl, .int ((n + 1 : Nat) : Int), rfl, _, _, rfl, rfl, ?_⟩
                      refine ⟨p, v1, v2, v3, ps, qs, rs, y, d, x, own, ?_, Fr1.same s2, shy, gdAll_mem gE.1 hd, tx1.same s2, lo, fun H4 s4 => k H4 s4⟩
                      show [V.ref p, y, x, V.int (((n + 1 : Nat) : Int) - 1)] = _
                      rw [en1]
                    · refine ⟨D, es.map (jf ps qs rs n .body own), rfl, SqL.of (by rw [d2, List.map_map]; rfl), ?_⟩
                      have qq := q1 H' s2
                      have en : (true && es.all (jf ps qs rs n .body own)) = (es.map (jf ps qs rs n .body own)).all id := by
                        rw [Bool.true_and, List.all_map]
                        rfl
                      rw [← en]
                      exact qq
              · rw [decide_eq_false hz] at q1 ⊢
                refine iteT ?_
                exact q1 H1 (Same.refl H1)
end
end K03

set_option autoImplicit false
set_option maxRecDepth 100000
set_option maxHeartbeats 4000000
/-! alls -/
namespace K03
open PySem PySem.Spec PyProof.Rows L2 KX
abbrev sAf : Stmt := topS 36
abbrev nAf : List Str := ["frame", "value", "depth", "own", "word"]
theorem scAf : FnScope nAf ["frame", "value", "depth"] (defScope sAf) := ⟨rfl, rfl, rfl, by decide +kernel, rfl, by decide +kernel, by decide +kernel⟩
def spAf (C : Addr) (n : Nat) : Sp := fun vs H Q _ => ∃ (p : Addr) (v1 v2 v3 : V) (ps : List (Str × Str)) (qs rs : List Str) (v : V) (ds : List PyData) (own : List Str), vs = [.ref p, v, .int ((n + 1 : Nat) : Int)] ∧ FrameAt C H p v1 v2 v3 ps qs rs ∧ Shw H v (.tuple (.str "all" :: ds)) ∧ gd (.tuple (.str "all" :: ds)) = true ∧
  ∀ H', Same H H' → Q (.bl (jf ps qs rs (n + 1) .form own (.tuple (.str "all" :: ds)))) H'
section
variable {K : PySem.W.Frag}
/-- a comprehension over texts, of the run or of the written part -/
theorem lc_txt {a : Addr} {zs : List Str} {g : TG} {te : TE} {vs : List Nat} {σ : L2.St} {H1 : Hp} {D : Addr} {Qd : Hp → Prop} (G : Str → V) (hx : SqT K H1 a (zs.map V.str)) (n : H1 D = none) (few : zs.length ≤ 100000)
    (step : ∀ (z : Str) (H' : Hp) (Q' : VK), z ∈ zs → Same H1 H' → (∀ H4, Same H' H4 → Q' (G z) H4) → g (.str z) (wipe σ vs) H' fun σ2 H2 => wipe σ2 vs = wipe σ vs ∧ te σ2 H2 Q')
    (fin : ∀ H', Same H1 H' → H' D = some (.lst (zs.map G)) → Qd H') :
    ∃ W : Nat → Nat → Hp → Prop, (∃ m, W 0 m (upd H1 D (.lst []))) ∧ ∀ i m H, W i m H →
      ((Itt K a).stop i H ∧ Qd H) ∨ ((Itt K a).go i H ∧ ∃ Nx : Hp → Prop, (∀ H', Nx H' → ∃ m', m' < m ∧ W (i + 1) m' H') ∧ ∀ x H', (Itt K a).yld i H x H' → g x (wipe σ vs) H' fun σ2 H2 => wipe σ2 vs = wipe σ vs ∧ tYes σ2 H2 fun b H3 =>
        if b = true then te σ2 H3 fun y H4 => ∃ acc, H4 D = some (.lst acc) ∧ acc.length < sizeLine ∧ Nx (upd H4 D (.lst (acc ++ [y]))) else Nx H3) := by
  refine lc_tup (K := K) (a := a) (xs := zs.map V.str) (fun m H' => Same H1 H' ∧ H' D = some (.lst ((zs.take m).map G))) ⟨same_upd n, by rw [List.take_zero]; exact upd_same⟩ (fun m H' _ hP => SqT.same hx hP.1) (fun m x H' hm hP => ?_) (fun H' hP => ?_)
  · obtain ⟨s1, d1⟩ := hP
    rw [List.getElem?_map] at hm
    obtain ⟨z, hz, rfl⟩ := Option.map_eq_some_iff.mp hm
    refine step z H' _ (List.mem_of_getElem? hz) s1 fun H4 s4 => ⟨_, s4 _ _ d1, ?_, fun b o e => ?_, ?_⟩
    · have := (List.getElem?_eq_some_iff.mp hz).1
      rw [List.length_map, List.length_take, sizeLine_eq]
      omega
    · rw [upd_ne (ne_of_none e n)]
      exact s4 _ _ (s1 _ _ e)
    · rw [upd_same, List.take_add_one, hz, List.map_append]
      rfl
  · obtain ⟨s1, d1⟩ := hP
    rw [List.length_map, List.take_length] at d1
    exact fin H' s1 d1
end
theorem allStr_map : ∀ zs : List Str, allStr (zs.map PyData.str) = true
  | [] => rfl
  | z :: zs => allStr_map zs
theorem txt_map (zs : List Str) : (zs.map PyData.str).map txtD = zs := by
  rw [List.map_map]
  exact (List.map_congr_left fun z _ => rfl).trans (List.map_id zs)
section
variable {ps : List (Str × Str)} {qs rs own : List Str}
theorem ownD_is {zs : List Str} (l2 : zs.length ≤ 2) (nm : ∀ z ∈ zs, nameS z = true) : ownD ps qs rs (.tuple (zs.map PyData.str)) = (!decide (zs.length = 0) && (!decide ((onceS zs).length < zs.length) && zs.all fun z => !decide (z ∈ wordsOf ps qs rs))) := by
  have le := onceS_le zs
  show (decide ((zs.map PyData.str).length = 1 ∨ (zs.map PyData.str).length = 2) && ((allStr (zs.map PyData.str) && (((zs.map PyData.str).map txtD).all fun z => nameS z && !decide (z ∈ wordsOf ps qs rs))) && decide ((onceS ((zs.map PyData.str).map txtD)).length = (zs.map PyData.str).length))) = _
  rw [allStr_map, txt_map, List.length_map, Bool.true_and]
  have e1 : (zs.all fun z => nameS z && !decide (z ∈ wordsOf ps qs rs)) = zs.all fun z => !decide (z ∈ wordsOf ps qs rs) := by
    rw [Bool.eq_iff_iff, List.all_eq_true, List.all_eq_true]
    exact ⟨fun h z hz => by have := h z hz; rw [nm z hz, Bool.true_and] at this; exact this, fun h z hz => by rw [nm z hz, Bool.true_and]; exact h z hz⟩
  rw [e1]
  have e2 : decide (zs.length = 1 ∨ zs.length = 2) = !decide (zs.length = 0) := by
    by_cases h : zs.length = 0
    · rw [decide_eq_true h, decide_eq_false (by omega)]
      rfl
    · rw [decide_eq_false h, decide_eq_true (by omega)]
      rfl
  have e3 : decide ((onceS zs).length = zs.length) = !decide ((onceS zs).length < zs.length) := by
    by_cases h : (onceS zs).length = zs.length
    · rw [decide_eq_true h, decide_eq_false (by omega)]
      rfl
    · rw [decide_eq_false h, decide_eq_true (by omega)]
      rfl
  rw [e2, e3]
  cases decide (zs.length = 0) <;> cases decide ((onceS zs).length < zs.length) <;> cases (zs.all fun z => !decide (z ∈ wordsOf ps qs rs)) <;> rfl
theorem ownD_nm {o : PyData} (h : areNm 2 o = false) : ownD ps qs rs o = false := by
  cases e : ownD ps qs rs o with
  | false => rfl
  | true =>
    cases o with
    | tuple ds =>
      have e : (decide (ds.length = 1 ∨ ds.length = 2) && (allStr ds && ((ds.map txtD).all fun z => nameS z && !decide (z ∈ wordsOf ps qs rs)) && decide ((onceS (ds.map txtD)).length = ds.length))) = true := e
      simp only [Bool.and_eq_true, decide_eq_true_eq] at e
      have hs : ∀ d ∈ ds, isNm d = true := by
        have ha := e.2.1.1
        have hn := List.all_eq_true.mp e.2.1.2
        intro d hd
        have st : ∀ {xs : List PyData}, allStr xs = true → ∀ d ∈ xs, ∃ z, d = .str z := fun {xs} => by
          induction xs with
          | nil => intro _ d hd; cases hd
          | cons x xs ih =>
            intro hx d hd
            cases x with
            | str z =>
              rcases List.mem_cons.mp hd with rfl | hd
              · exact ⟨z, rfl⟩
              · exact ih hx d hd
            | _ => cases hx
        obtain ⟨z, rfl⟩ := st ha d hd
        have := hn z (List.mem_map.mpr ⟨_, hd, rfl⟩)
        rw [Bool.and_eq_true] at this
        exact this.1
      have h : (decide (ds.length ≤ 2) && ds.all isNm) = false := h
      rw [List.all_eq_true.mpr hs, Bool.and_true] at h
      have := of_decide_eq_false h
      omega
    | _ => cases e
theorem jf_all {n : Nat} {o g b : PyData} : jf ps qs rs (n + 1) .form own (.tuple [.str "all", o, g, b]) = (ownD ps qs rs o && (jf ps qs rs n .guard (strsD o) g && jf ps qs rs n .body (strsD o) b)) := by
  show (decide (Kd.form = Kd.form) && (ownD ps qs rs o && (jf ps qs rs n .guard (strsD o) g && jf ps qs rs n .body (strsD o) b))) = _
  rw [decide_eq_true rfl, Bool.true_and]
theorem jf_all3 {n : Nat} {ds : List PyData} (h : ds.length ≠ 3) : jf ps qs rs (n + 1) .form own (.tuple (.str "all" :: ds)) = false := by
  match ds, h with
  | [], _ => rfl
  | [_], _ => rfl
  | [_, _], _ => rfl
  | [_, _, _], h => exact absurd rfl h
  | _ :: _ :: _ :: _ :: _, _ => rfl
end
section
variable {P : Program} {w : World} {K : PySem.W.Frag} {mg : Str → Option Value} {base : Heap}
theorem at3 (x y z u : V) (xs : List V) : atI (x :: y :: z :: u :: xs) 3 = some u := by
  unfold atI ixN
  simp
  rw [if_pos (by omega)]
  rfl
theorem ok_af {f C : Addr} {fd : FuncData} {tk : Tok} (n : Nat) (F : Fun K "is_all_form" "is_all_form" sAf f fd) (T : FrTxt K mg C) (B : Free mg) (gO : mg "MAX_OWN" = some (.int 2 tk)) (N : Fnc P w K mg base CX0 2 "are_names" ["value", "most"] spNames)
    (O : OM P w K mg base CX0 2 C "is_fresh" ["self", "value"] (spFresh C)) (Gd : Fnc P w K mg base CX0 (6 + n) "is_guard" ["frame", "value", "own", "depth"] (spGd K C n)) (Bd : Fnc P w K mg base CX0 (6 + n) "is_body" ["frame", "value", "own", "depth"] (spBd K C n)) :
    FnOk P w K mg base CX0 (7 + n) f fd ["frame", "value", "depth"] (spAf C n) := by
  have el : 7 + n = (6 + n) + 1 := by omega
  rw [el]
  refine F.ok scAf (fun vs H Q E h => ?_) (fun cdv A outer s H vs Q E hr h => ?_)
  · obtain ⟨p, v1, v2, v3, ps, qs, rs, v, ds, own, rfl, _⟩ := h
    rfl
  · obtain ⟨p, v1, v2, v3, ps, qs, rs, v, ds, own, rfl, Fr, sh, g, q⟩ := h
    refine ⟨_, pss_cons (ps_if (PW.pt (pw_or (pt_cmpR op_ne (pe_callB call_len_seq (by rfl) B.len PySem.boot_len (pa_cons (pv 1) pa_nil)) pe_int (nomark _))
          (pw_or1 (pt_not (pt_val (pe_fnc N hr (by omega) (by rfl) pass0 (pa_cons (pe_ix ix_tup (pv 1) pe_int (fun _ _ => rfl)) (pa_cons (pe_glob (v := .int 2) (by rfl) gO ⟨_, rfl⟩) pa_nil))))))))
        (pss_one (ps_ret pe_bl)) pss_nil)
      (pss_cons (ps_set (i := 3) scAf.nd rfl (.inl rfl) (pe_ix ix_tup (pv 1) pe_int (fun _ _ => rfl)))
      (pss_cons (ps_if (PW.pt (pw_or (pt_cmpR op_eq (pe_callB call_len_seq (by rfl) B.len PySem.boot_len (pa_cons (pv 3) pa_nil)) pe_int (nomark _))
          (pw_or (pt_cmpR op_lt (pe_lenWords (by rfl) B.len (by rfl) B.set (pv 3)) (pe_callB call_len_seq (by rfl) B.len PySem.boot_len (pa_cons (pv 3) pa_nil)) (nomark _))
          (pw_or1 (pt_not (pt_val (pe_callB (cr_all rfl) (by rfl) B.all (by decide +kernel) (pa_cons (pe_lc (own := [("word", 4)]) (g := gName 4) (tt := tYes) rfl scAf.nd (pi_tup (pv 3)) (blkOk_by (N := nAf) (sc := defScope sAf) (by decide +kernel))
            (fun _ _ _ _ _ => pg_name (i := 4) scAf.nd rfl (Or.inl rfl) (Or.inr rfl)) (fun _ _ _ _ _ => pts_nil) (fun _ _ _ _ _ => pe_om (pl := _) O T.cl hr (by omega) pass0 (pv 0) (pa_cons (pv 4) pa_nil))) pa_nil))))))))
        (pss_one (ps_ret pe_bl)) pss_nil)
      (pss_one (ps_ret (pe_and (pe_fnc Gd hr (by omega) (by rfl) pass0 (pa_cons (pv 0) (pa_cons (pe_ix ix_tup (pv 1) pe_int (fun _ _ => rfl)) (pa_cons (pv 3) (pa_cons (pe_op op_sub (pv 2) pe_int) pa_nil)))))
        (pe_one (pe_fnc Bd hr (by omega) (by rfl) pass0 (pa_cons (pv 0) (pa_cons (pe_ix ix_tup (pv 1) pe_int (fun _ _ => rfl)) (pa_cons (pv 3) (pa_cons (pe_op op_sub (pv 2) pe_int) pa_nil))))))))))), ?_⟩
    have en1 : ((n + 1 : Nat) : Int) - 1 = (n : Int) := by omega
    obtain ⟨a, xs, rfl, e, ha⟩ := shwT sh
    have ln := ShwAll.len ha
    refine ⟨.ref a, rfl, a, xs, rfl, .inr (SqT.of e), rfl, _, rfl, ite2 (fun e1 => ?_) (fun e1 => ?_)⟩
    · have n3 : ds.length ≠ 3 := fun h => by
        have e1 : (!decide (V.int (xs.length : Nat) = V.int 4)) = true := e1
        rw [decide_eq_true (congrArg V.int (by rw [ln, List.length_cons, h]; rfl))] at e1
        cases e1
      have qq := q H (Same.refl H)
      rw [jf_all3 n3] at qq
      exact qq
    · have n3 : ds.length = 3 := by
        have e1 : ¬ (!decide (V.int (xs.length : Nat) = V.int 4)) = true := e1
        by_cases h : xs.length = 4
        · rw [ln, List.length_cons] at h
          omega
        · rw [decide_eq_false (fun k => h (by have := V.int.inj k; omega))] at e1
          exact absurd rfl e1
      match ds, n3 with
      | [o, gg, bb], _ =>
        cases ha with
        | @cons x0 _ _ _ h0 ha =>
          cases h0
          cases ha with
          | @cons x1 _ _ _ h1 ha =>
            cases ha with
            | @cons x2 _ _ _ h2 ha =>
              cases ha with
              | @cons x3 _ _ _ h3 ha =>
                cases ha
                have gs : gd o = true ∧ gd gg = true ∧ gd bb = true := by
                  simp only [gd, gdAll, Bool.and_eq_true] at g
                  exact ⟨g.2.2.1, g.2.2.2.1, g.2.2.2.2.1⟩
                refine ⟨.ref a, rfl, a, _, 1, x1, rfl, rfl, SqT.of e, at1 _ _ _, x1, o, 2, rfl, h1, gs.1, fun H1 w1 => ⟨_, rfl, ?_⟩⟩
                cases en : areNm 2 o with
                | false =>
                  have qq := q H1 w1
                  rw [jf_all, ownD_nm en, Bool.false_and] at qq
                  exact qq
                | true =>
                  refine iteF ?_
                  obtain ⟨eo, l2⟩ := names_are en
                  have nm : ∀ z ∈ strsD o, nameS z = true := fun z hz => by
                    rw [eo] at en
                    have en : (decide (((strsD o).map PyData.str).length ≤ 2) && ((strsD o).map PyData.str).all isNm) = true := en
                    rw [Bool.and_eq_true] at en
                    exact List.all_eq_true.mp en.2 (.str z) (List.mem_map.mpr ⟨z, hz, rfl⟩)
                  have gz : ∀ z ∈ strsD o, gd (.str z) = true := fun z hz => by
                    have g1 := gs.1
                    rw [eo] at g1
                    simp only [gd, Bool.and_eq_true] at g1
                    exact gdAll_mem g1.2 (List.mem_map.mpr ⟨z, hz, rfl⟩)
                  have tx : Txts H1 x1 (strsD o) := txts_of (by rw [← eo]; exact Shw.same h1 w1)
                  obtain ⟨t, rfl, et⟩ := id tx
                  have e' := w1 _ _ e
                  have Fr1 := Fr.same w1
                  have jq : ∀ H', Same H1 H' → Q (.bl ((!decide ((strsD o).length = 0) && (!decide ((onceS (strsD o)).length < (strsD o).length) && (strsD o).all fun z => !decide (z ∈ wordsOf ps qs rs))) && (jf ps qs rs n .guard (strsD o) gg && jf ps qs rs n .body (strsD o) bb))) H' := fun H' s' => by
                    have qq := q H' (w1.trans s')
                    rw [jf_all, show ownD ps qs rs o = ownD ps qs rs (.tuple ((strsD o).map PyData.str)) from congrArg _ eo, ownD_is l2 nm] at qq
                    exact qq
                  generalize strsD o = zs at l2 nm gz tx et jq
                  refine ⟨.ref a, rfl, a, _, 1, .ref t, rfl, rfl, SqT.of e', at1 _ _ _, ?_⟩
                  refine ⟨.ref t, rfl, t, _, rfl, .inr (SqT.of et), rfl, _, rfl, ?_⟩
                  have c1 : decide (V.int ((zs.map V.str).length : Nat) = V.int 0) = decide (zs.length = 0) := decide_eq_decide.mpr (by rw [List.length_map]; exact ⟨fun k => by have := V.int.inj k; omega, fun k => by rw [k]; rfl⟩)
                  rw [c1]
                  refine ite2 (fun e2 => ?_) (fun e2 => ?_)
                  · have qq := jq H1 (Same.refl H1)
                    rw [e2] at qq
                    exact qq
                  · have e2 : decide (zs.length = 0) = false := by simpa using e2
                    rw [e2] at jq
                    refine ⟨.ref t, rfl, t, zs, rfl, .inr (SqT.of et), by omega, .ref t, rfl, t, _, rfl, .inr (SqT.of et), _, _, rfl, rfl, _, rfl, ?_⟩
                    have c2 : decide ((((once zs).length : Nat) : Int) < (((zs.map V.str).length : Nat) : Int)) = decide ((onceS zs).length < zs.length) := decide_eq_decide.mpr (by rw [List.length_map]; exact Int.ofNat_lt)
                    rw [c2]
                    refine ite2 (fun e3 => ?_) (fun e3 => ?_)
                    · have qq := jq H1 (Same.refl H1)
                      rw [e3] at qq
                      exact qq
                    · have e3 : decide ((onceS zs).length < zs.length) = false := by simpa using e3
                      rw [e3] at jq
                      refine ⟨.ref t, rfl, t, rfl, ⟨_, SqT.of et⟩, fun D nD => ?_⟩
                      refine lc_txt (K := K) (fun z => .bl (isNm (.str z) && !hasW (wordsOf ps qs rs) (.str z))) (SqT.of et) nD (by omega) (fun z H' Q' hz s1 k => ?_) (fun H2 s2 d2 => ?_)
                      · have Fr2 := Fr1.same s1
                        obtain ⟨dx, tt, d2, e4, ob, _⟩ := id Fr2.ob
                        exact ⟨rfl, .ref p, rfl, p, dx, _, rfl, ob, lookup_zip_none (by decide +kernel), .str z, rfl, p, v1, v2, v3, ps, qs, rs, .str z, .str z, rfl, Fr2, .str z, gz z hz, fun H4 s4 => k H4 s4⟩
                      · refine ⟨D, zs.map fun z => (isNm (.str z) && !hasW (wordsOf ps qs rs) (.str z)), rfl, SqL.of (by rw [d2]; simp only [List.map_map]; rfl), ?_⟩
                        have ea : ((zs.map fun z => (isNm (.str z) && !hasW (wordsOf ps qs rs) (.str z))).all id) = zs.all fun z => !decide (z ∈ wordsOf ps qs rs) := by
                          rw [List.all_map, Bool.eq_iff_iff, List.all_eq_true, List.all_eq_true]
                          refine ⟨fun h z hz => ?_, fun h z hz => ?_⟩
                          · have := h z hz
                            have this : (nameS z && !decide (z ∈ wordsOf ps qs rs)) = true := this
                            rw [nm z hz, Bool.true_and] at this
                            exact this
                          · show (nameS z && !decide (z ∈ wordsOf ps qs rs)) = true
                            rw [nm z hz, Bool.true_and]
                            exact h z hz
                        rw [ea]
                        refine ⟨_, rfl, ?_⟩
                        cases ec : (zs.all fun z => !decide (z ∈ wordsOf ps qs rs)) with
                        | false =>
                          have qq := jq H2 s2
                          rw [ec] at qq
                          exact qq
                        | true =>
                          rw [ec] at jq
                          refine iteF ?_
                          have s02 := w1.trans s2
                          have Fr2 := Fr1.same s2
                          have tx2 := (tx.same s2).k (K := K)
                          have e'' := s2 _ _ e'
                          refine ⟨.ref p, rfl, .ref a, rfl, a, _, 2, x2, rfl, rfl, SqT.of e'', at2 _ _ _ _, .ref t, rfl, .int ((n + 1 : Nat) : Int), rfl, _, _, rfl, rfl, ?_⟩
                          refine ⟨p, v1, v2, v3, ps, qs, rs, x2, gg, .ref t, zs, ?_, Fr2, Shw.same h2 s02, gs.2.1, tx2, by omega, fun H3 s3 => ⟨_, rfl, ?_⟩⟩
                          · show [V.ref p, x2, V.ref t, V.int (((n + 1 : Nat) : Int) - 1)] = _
                            rw [en1]
                          cases eg : jf ps qs rs n .guard zs gg with
                          | false =>
                            have qq := jq H3 (s2.trans s3)
                            rw [eg] at qq
                            exact qq
                          | true =>
                            rw [eg] at jq
                            refine iteT ⟨.ref p, rfl, .ref a, rfl, a, _, 3, x3, rfl, rfl, SqT.of (s3 _ _ e''), at3 _ _ _ _ _, .ref t, rfl, .int ((n + 1 : Nat) : Int), rfl, _, _, rfl, rfl, ?_⟩
                            refine ⟨p, v1, v2, v3, ps, qs, rs, x3, bb, .ref t, zs, ?_, Fr2.same s3, Shw.same h3 (s02.trans s3), gs.2.2, tx2.same s3, by omega, fun H4 s4 => ?_⟩
                            · show [V.ref p, x3, V.ref t, V.int (((n + 1 : Nat) : Int) - 1)] = _
                              rw [en1]
                            · exact jq H4 (s2.trans (s3.trans s4))
end
end K03

set_option autoImplicit false
set_option maxRecDepth 100000
set_option maxHeartbeats 4000000
/-! claims -/
namespace K03
open PySem PySem.Spec PyProof.Rows L2 KX
abbrev sFm : Stmt := topS 35
abbrev nFm : List Str := ["frame", "value", "depth", "word", "part"]
theorem scFm : FnScope nFm ["frame", "value", "depth"] (defScope sFm) := ⟨rfl, rfl, rfl, by decide +kernel, rfl, by decide +kernel, by decide +kernel⟩
def spFm (C : Addr) (n : Nat) : Sp := fun vs H Q _ => ∃ (p : Addr) (v1 v2 v3 : V) (ps : List (Str × Str)) (qs rs : List Str) (v : V) (d : PyData), vs = [.ref p, v, .int n] ∧ FrameAt C H p v1 v2 v3 ps qs rs ∧ Shw H v d ∧ gd d = true ∧
  ∀ H', Same H H' → Q (.bl (jf ps qs rs n .form [] d)) H'
def atmW : List Str := ["pos", "val"]
section
variable {ps : List (Str × Str)} {qs rs own : List Str}
theorem jf_fatm {n : Nat} {z : Str} {ds : List PyData} (h : z ∈ atmW) : jf ps qs rs (n + 1) .form own (.tuple (.str z :: ds)) = atomK ps qs rs own z ds := by
  unfold atmW at h
  simp only [List.mem_cons, List.not_mem_nil, or_false] at h
  rcases h with rfl | rfl
  · rfl
  · rfl
theorem jf_fnot {n : Nat} {d : PyData} : jf ps qs rs (n + 1) .form own (.tuple [.str "not", d]) = jf ps qs rs n .form own d := by
  show (decide (Kd.form ≠ Kd.guard) && jf ps qs rs n .form own d) = _
  rw [decide_eq_true (by decide), Bool.true_and]
theorem jf_fnot2 {n : Nat} {ds : List PyData} (h : ds.length ≠ 1) : jf ps qs rs (n + 1) .form own (.tuple (.str "not" :: ds)) = false := by
  match ds, h with
  | [], _ => rfl
  | [_], h => exact absurd rfl h
  | _ :: _ :: _, _ => rfl
theorem jf_fao {n : Nat} {z : Str} {ds : List PyData} (h : z = "and" ∨ z = "or") : jf ps qs rs (n + 1) .form own (.tuple (.str z :: ds)) = allPt (jf ps qs rs n .form own) ds := by
  unfold allPt
  rcases h with rfl | rfl
  · rfl
  · rfl
theorem jf_felse {n : Nat} {z : Str} {ds : List PyData} (h1 : ¬ z ∈ atmW) (h2 : ¬ z = "not") (h3 : ¬ (z = "and" ∨ z = "or")) (h4 : ¬ z = "all") : jf ps qs rs (n + 1) .form own (.tuple (.str z :: ds)) = false := by
  have p : ¬ z = "pos" := fun h => h1 (by rw [h]; decide)
  have v : ¬ z = "val" := fun h => h1 (by rw [h]; decide)
  simp only [jf, if_neg p, if_neg v, if_neg h2, if_neg h3, if_neg h4]
end
section
variable {P : Program} {w : World} {K : PySem.W.Frag} {mg : Str → Option Value} {base : Heap}
theorem ok_fm {f C TA : Addr} {fd : FuncData} (F : Fun K "is_form" "is_form" sFm f fd) (hb : Binds K fd ["frame", "value", "depth"] []) (hm : mg "is_form" = some (.ref f)) (B : Free mg) (gA : mg "ATOMS" = some (.ref TA)) (kA : ∀ H, SqT K H TA (atmW.map V.str))
    (Wd : Fnc P w K mg base CX0 1 "is_worded" ["value"] spWd) (Pt : Fnc P w K mg base CX0 1 "has_parts" ["value"] spPt) (At : Fnc P w K mg base CX0 5 "is_atom" ["frame", "value", "own"] (spAtm K C)) (Af : ∀ n, Fnc P w K mg base CX0 (7 + n) "is_all_form" ["frame", "value", "depth"] (spAf C n)) :
    ∀ n, FnOk P w K mg base CX0 (8 + n) f fd ["frame", "value", "depth"] (spFm C n)
  | 0 => by
    show FnOk P w K mg base CX0 (7 + 1) f fd _ _
    refine F.ok scFm (fun vs H Q E h => ?_) (fun cdv A outer s H vs Q E hr h => ?_)
    · obtain ⟨p, v1, v2, v3, ps, qs, rs, v, d, rfl, _⟩ := h
      rfl
    · obtain ⟨p, v1, v2, v3, ps, qs, rs, v, d, rfl, Fr, sh, g, q⟩ := h
      refine ⟨_, pss_cons (ps_if (PW.pt (pw_or (pt_cmpR op_eq (pv 2) pe_int (nomark _)) (pw_or1 (pt_not (pt_val (pe_fnc Wd hr (by omega) (by rfl) pass0 (pa_cons (pv 1) pa_nil))))))) (pss_one (ps_ret pe_bl)) pss_nil)
        (pss_cons ps_never (pss_cons ps_never (pss_cons ps_never (pss_cons ps_never (pss_one ps_never))))), ?_⟩
      exact ⟨.int 0, rfl, rfl, _, rfl, iteT (q H (Same.refl H))⟩
  | n + 1 => by
    have ih := ok_fm F hb hm B gA kA Wd Pt At Af n
    have Rc : Fnc P w K mg base CX0 (8 + n) "is_form" ["frame", "value", "depth"] (spFm C n) := ⟨⟨f, fd, ih, hb, hm, F.kp⟩⟩
    have Af' := Af n
    show FnOk P w K mg base CX0 ((8 + n) + 1) f fd _ _
    refine F.ok scFm (fun vs H Q E h => ?_) (fun cdv A outer s H vs Q E hr h => ?_)
    · obtain ⟨p, v1, v2, v3, ps, qs, rs, v, d, rfl, _⟩ := h
      rfl
    · obtain ⟨p, v1, v2, v3, ps, qs, rs, v, d, rfl, Fr, sh, g, q⟩ := h
      refine ⟨_, pss_cons (ps_if (PW.pt (pw_or (pt_cmpR op_eq (pv 2) pe_int (nomark _)) (pw_or1 (pt_not (pt_val (pe_fnc Wd hr (by omega) (by rfl) pass0 (pa_cons (pv 1) pa_nil))))))) (pss_one (ps_ret pe_bl)) pss_nil)
        (pss_cons (ps_set (i := 3) scFm.nd rfl (.inl rfl) (pe_ix ix_tup (pv 1) pe_int (fun _ _ => rfl)))
        (pss_cons (ps_if (pt_cmpR (r := rIn K false) op_in_seq (pv 3) (pe_glob (v := .ref TA) (by rfl) gA rfl) (by with_unfolding_all rfl))
          (pss_one (ps_ret (pe_fnc At hr (by omega) (by rfl) pass0 (pa_cons (pv 0) (pa_cons (pv 1) (pa_cons (pe_tup pa_nil) pa_nil)))))) pss_nil)
        (pss_cons (ps_if (pt_cmpR op_eq (pv 3) pe_str (nomark _))
          (pss_one (ps_ret (pe_and (pe_cmpR op_eq (pe_callB call_len_seq (by rfl) B.len PySem.boot_len (pa_cons (pv 1) pa_nil)) pe_int (nomark _)) (pe_one (pe_fnc Rc hr (by omega) (by rfl) pass0 (pa_cons (pv 0) (pa_cons (pe_ix ix_tup (pv 1) pe_int (fun _ _ => rfl)) (pa_cons (pe_op op_sub (pv 2) pe_int) pa_nil)))))))) pss_nil)
        (pss_cons (ps_if (pt_cmpR (r := rIn K false) op_in_seq (pv 3) (pe_tup (pa_cons pe_str (pa_cons pe_str pa_nil))) (by with_unfolding_all rfl))
          (pss_one (ps_ret (pe_and (pe_fnc Pt hr (by omega) (by rfl) pass0 (pa_cons (pv 1) pa_nil)) (pe_one (pe_callB (cr_all rfl) (by rfl) B.all (by decide +kernel) (pa_cons (pe_lc (own := [("part", 4)]) (g := gName 4) (tt := tYes) rfl scFm.nd (pi_tup (pe_ix (r := rIxT K) ix_tup (pv 1) pe_int (fun _ _ => rfl))) (blkOk_by (N := nFm) (sc := defScope sFm) (by decide +kernel))
            (fun _ _ _ _ _ => pg_name (i := 4) scFm.nd rfl (Or.inl rfl) (Or.inr rfl)) (fun _ _ _ _ _ => pts_nil) (fun _ _ _ _ _ => pe_fnc Rc hr (by omega) (by rfl) pass0 (pa_cons (pv 0) (pa_cons (pv 4) (pa_cons (pe_op op_sub (pv 2) pe_int) pa_nil))))) pa_nil)))))) pss_nil)
        (pss_one (ps_ret (pe_and (pe_cmpR op_eq (pv 3) pe_str (nomark _)) (pe_one (pe_fnc Af' hr (by omega) (by rfl) pass0 (pa_cons (pv 0) (pa_cons (pv 1) (pa_cons (pv 2) pa_nil)))))))))))), ?_⟩
      have en1 : ((n + 1 : Nat) : Int) - 1 = (n : Int) := by omega
      refine ⟨.int ((n + 1 : Nat) : Int), rfl, rfl, _, rfl, ?_⟩
      refine iteF' (decide_eq_false fun k => by have := V.int.inj k; omega) ?_
      refine ⟨v, rfl, v, d, rfl, sh, _, rfl, ?_⟩
      cases ew : isWd d with
      | false =>
        have qq := q H (Same.refl H)
        rw [jf_odd ew] at qq
        exact qq
      | true =>
        obtain ⟨z, ds, rfl⟩ := wd_is ew
        obtain ⟨a, xs, rfl, e, ha⟩ := shwT sh
        have ln := ShwAll.len ha
        cases ha with
        | @cons x0 xs' _ _ h0 ha =>
          cases h0
          refine ⟨.ref a, rfl, a, _, 0, .str z, rfl, rfl, SqT.of e, at0 _ _, ?_⟩
          refine ⟨.str z, rfl, TA, _, rfl, .inr (kA H), rfl, flat_strs _, _, rfl, ?_⟩
          have i1 : (if false = true then !inV (.str z) (atmW.map V.str) else inV (.str z) (atmW.map V.str)) = decide (z ∈ atmW) := by rw [if_neg (by decide), inV_strs]
          rw [i1]
          refine ite2 (fun e1 => ?_) (fun e1 => ?_)
          · have hz := of_decide_eq_true e1
            refine ⟨.ref p, rfl, .ref a, rfl, (by rw [sizeLine_eq]; decide), fun t nt => ?_⟩
            have st := same_upd (p := t) (o := .tup []) nt
            refine ⟨p, v1, v2, v3, ps, qs, rs, .ref a, z, ds, .ref t, [], rfl, Fr.same st, Shw.same sh st, ⟨t, rfl, SqT.of upd_same⟩, fun H1 w1 => ?_⟩
            have qq := q H1 (st.trans w1)
            rw [jf_fatm hz] at qq
            exact qq
          · have h1 : ¬ z ∈ atmW := fun h => e1 (decide_eq_true h)
            refine ⟨.str z, rfl, rfl, _, rfl, ite2 (fun e2 => ?_) (fun e2 => ?_)⟩
            · obtain rfl : z = "not" := by
                have := of_decide_eq_true e2
                injection this
              refine ⟨.ref a, rfl, a, _, rfl, .inr (SqT.of e), rfl, _, rfl, ite2 (fun e3 => ?_) (fun e3 => ?_)⟩
              · have l1 : ds.length = 1 := by
                  have h := V.int.inj (of_decide_eq_true e3)
                  rw [ln, List.length_cons] at h
                  omega
                match ds, l1 with
                | [d], _ =>
                  cases ha with
                  | @cons x1 _ _ _ hx ha =>
                    cases ha
                    refine ⟨.ref p, rfl, .ref a, rfl, a, _, 1, x1, rfl, rfl, SqT.of e, at1 _ _ _, .int ((n + 1 : Nat) : Int), rfl, _, _, rfl, rfl, ?_⟩
                    have gD : gd d = true := by
                      simp only [gd, gdAll, Bool.and_eq_true] at g
                      exact g.2.2.1
                    refine ⟨p, v1, v2, v3, ps, qs, rs, x1, d, ?_, Fr, hx, gD, fun H4 s4 => ?_⟩
                    · show [V.ref p, x1, V.int (((n + 1 : Nat) : Int) - 1)] = _
                      rw [en1]
                    · have qq := q H4 s4
                      rw [jf_fnot] at qq
                      exact qq
              · have l1 : ds.length ≠ 1 := fun h => e3 (decide_eq_true (congrArg V.int (by rw [ln, List.length_cons, h]; rfl)))
                have qq := q H (Same.refl H)
                rw [jf_fnot2 l1] at qq
                exact qq
            · have h2 : ¬ z = "not" := fun h => e2 (decide_eq_true (by rw [h]))
              refine ⟨.str z, rfl, by rw [sizeLine_eq]; show 2 ≤ 16777216; decide, fun t nt => ?_⟩
              have st := same_upd (p := t) (o := .tup [.str "and", .str "or"]) nt
              refine ⟨t, _, rfl, .inr (SqT.of upd_same), rfl, rfl, _, rfl, ?_⟩
              have i2 : (if false = true then !inV (.str z) [.str "and", .str "or"] else inV (.str z) [.str "and", .str "or"]) = decide (z = "and" ∨ z = "or") := by
                have := inV_ao z
                rw [if_pos rfl] at this
                rw [if_neg (by decide)]
                have := congrArg not this
                rw [Bool.not_not, Bool.not_not] at this
                exact this
              rw [i2]
              generalize upd H t (.tup [.str "and", .str "or"]) = H1 at st ⊢
              have sh1 := Shw.same sh st
              have Fr1 := Fr.same st
              refine ite2 (fun e3 => ?_) (fun e3 => ?_)
              · have hz := of_decide_eq_true e3
                have q1 : ∀ H', Same H1 H' → Q (.bl (allPt (jf ps qs rs n .form []) ds)) H' := fun H' s' => by
                  have qq := q H' (st.trans s')
                  rw [jf_fao hz] at qq
                  exact qq
                refine ⟨.ref a, rfl, .ref a, _, rfl, sh1, _, rfl, ?_⟩
                cases ep : hasPt (.tuple (.str z :: ds)) with
                | false =>
                  have qq := q1 H1 (Same.refl H1)
                  rw [allPt_no ep] at qq
                  exact qq
                | true =>
                  obtain ⟨es, rfl⟩ : ∃ es, ds = [.tuple es] := by
                    match ds, ep with
                    | [.tuple es], _ => exact ⟨es, rfl⟩
                  cases ha with
                  | @cons x1 _ _ _ hx ha =>
                    cases ha
                    obtain ⟨b, ys, rfl, eb, sb⟩ := shwT (Shw.same hx st)
                    have gE : gdAll es = true ∧ es.length ≤ 1000 := by
                      simp only [gd, gdAll, Bool.and_eq_true, decide_eq_true_eq] at g
                      exact ⟨g.2.2.1.2, g.2.2.1.1⟩
                    have lb := ShwAll.len sb
                    refine iteT ⟨.ref a, rfl, a, _, 1, .ref b, rfl, rfl, SqT.of (st _ _ e), at1 _ _ _, b, rfl, ⟨_, SqT.of eb⟩, fun D nD => ?_⟩
                    refine lc_tupD (K := K) (fun d => .bl (jf ps qs rs n .form [] d)) eb nD (by rw [lb]; omega) sb (fun y d H' Q' hy hd shy s2 k => ?_) (fun H' s2 d2 => ?_)
                    · refine ⟨rfl, .ref p, rfl, y, rfl, .int ((n + 1 : Nat) : Int), rfl, _, _, rfl, rfl, ?_⟩
                      refine ⟨p, v1, v2, v3, ps, qs, rs, y, d, ?_, Fr1.same s2, shy, gdAll_mem gE.1 hd, fun H4 s4 => k H4 s4⟩
                      show [V.ref p, y, V.int (((n + 1 : Nat) : Int) - 1)] = _
                      rw [en1]
                    · refine ⟨D, es.map (jf ps qs rs n .form []), rfl, SqL.of (by rw [d2, List.map_map]; rfl), ?_⟩
                      have qq := q1 H' s2
                      have en : allPt (jf ps qs rs n .form []) [.tuple es] = (es.map (jf ps qs rs n .form [])).all id := by
                        unfold allPt
                        rw [List.all_map]
                        rfl
                      rw [en] at qq
                      exact qq
              · have h3 : ¬ (z = "and" ∨ z = "or") := fun h => e3 (decide_eq_true h)
                refine ⟨.str z, rfl, rfl, _, rfl, ite2 (fun e4 => ?_) (fun e4 => ?_)⟩
                · obtain rfl : z = "all" := by
                    have := of_decide_eq_true e4
                    injection this
                  exact ⟨.ref p, rfl, .ref a, rfl, .int ((n + 1 : Nat) : Int), rfl, p, v1, v2, v3, ps, qs, rs, .ref a, ds, [], rfl, Fr1, sh1, g, fun H2 s2 => q H2 (st.trans s2)⟩
                · have h4 : ¬ z = "all" := fun h => e4 (decide_eq_true (by rw [h]))
                  have qq := q H1 st
                  rw [jf_felse h1 h2 h3 h4] at qq
                  exact qq
end
end K03

set_option autoImplicit false
set_option maxRecDepth 100000
set_option maxHeartbeats 4000000
/-! is_claim -/
namespace K03
open PySem PySem.Spec PyProof.Rows L2 KX
abbrev sCf : Stmt := topS 17
theorem scCf : FnScope ["frame"] ["frame"] (defScope sCf) := ⟨rfl, rfl, rfl, by decide +kernel, rfl, by decide +kernel, by decide +kernel⟩
def spCf (C : Addr) : Sp := fun vs H Q _ => ∃ (p : Addr) (v1 v2 v3 : V) (ps : List (Str × Str)) (qs rs : List Str), vs = [.ref p] ∧ FrameAt C H p v1 v2 v3 ps qs rs ∧ Q .non H
abbrev sIc : Stmt := topS 43
theorem scIc : FnScope ["frame", "value"] ["frame", "value"] (defScope sIc) := ⟨rfl, rfl, rfl, by decide +kernel, rfl, by decide +kernel, by decide +kernel⟩
def spIc (C : Addr) : Sp := fun vs H Q _ => ∃ (p : Addr) (v1 v2 v3 : V) (ps : List (Str × Str)) (qs rs : List Str) (v : V) (d : PyData), vs = [.ref p, v] ∧ FrameAt C H p v1 v2 v3 ps qs rs ∧ Shw H v d ∧ gd d = true ∧
  ∀ H', Same H H' → Q (.bl (jf ps qs rs 12 .form [] d)) H'
section
variable {P : Program} {w : World} {K : PySem.W.Frag} {mg : Str → Option Value} {base : Heap}
theorem ok_cf {f C : Addr} {fd : FuncData} (F : Fun K "check_frame" "check_frame" sCf f fd) (T : FrTxt K mg C) (S : FrIs K mg C) (B : Free mg) : FnOk P w K mg base CX0 1 f fd ["frame"] (spCf C) := by
  refine F.ok scCf (fun vs H Q E h => ?_) (fun cdv A outer s H vs Q E hr h => ?_)
  · obtain ⟨p, v1, v2, v3, ps, qs, rs, rfl, _⟩ := h
    rfl
  · obtain ⟨p, v1, v2, v3, ps, qs, rs, rfl, Fr, q⟩ := h
    refine ⟨_, pss_one (ps_if (pt_not (pt_val (pe_callB call_isi (by rfl) B.isinstance (by decide +kernel) (pa_cons (pv 0) (pa_cons (pe_glob (v := .ref C) (by rfl) S.gF rfl) pa_nil))))) (pss_one ps_never) pss_nil), ?_⟩
    obtain ⟨dx, t, d2, e, ob, _⟩ := id Fr.ob
    refine ⟨.ref p, rfl, .ref p, .ref C, _, _, true, rfl, .own C, .base (.ins ob T.cl S.ha S.hn S.ht S.hm), S.kT, true, rfl, ?_⟩
    exact iteF' rfl q
theorem ok_ic {f C : Addr} {fd : FuncData} {tk : Tok} (F : Fun K "is_claim" "is_claim" sIc f fd) (Cf : Fnc P w K mg base CX0 1 "check_frame" ["frame"] (spCf C)) (Fm : Fnc P w K mg base CX0 20 "is_form" ["frame", "value", "depth"] (spFm C 12)) (gD : mg "MAX_DEPTH" = some (.int 12 tk)) :
    FnOk P w K mg base CX0 21 f fd ["frame", "value"] (spIc C) := by
  refine F.ok scIc (fun vs H Q E h => ?_) (fun cdv A outer s H vs Q E hr h => ?_)
  · obtain ⟨p, v1, v2, v3, ps, qs, rs, v, d, rfl, _⟩ := h
    rfl
  · obtain ⟨p, v1, v2, v3, ps, qs, rs, v, d, rfl, Fr, sh, g, q⟩ := h
    refine ⟨_, pss_cons (ps_expr (pe_fnc Cf hr (by omega) (by rfl) pass0 (pa_cons (pv 0) pa_nil)))
      (pss_one (ps_ret (pe_fnc Fm hr (by omega) (by rfl) pass0 (pa_cons (pv 0) (pa_cons (pv 1) (pa_cons (pe_glob (v := .int 12) (by rfl) gD ⟨_, rfl⟩) pa_nil)))))), ?_⟩
    exact ⟨.ref p, rfl, p, v1, v2, v3, ps, qs, rs, rfl, Fr, .ref p, rfl, v, rfl, p, v1, v2, v3, ps, qs, rs, v, d, rfl, Fr, sh, g, q⟩
end
end K03

set_option autoImplicit false
set_option maxRecDepth 100000
set_option maxHeartbeats 4000000
/-! the law's own judge of terms -/
namespace K03
open PySem PySem.Spec PyProof.Rows L2 KX
abbrev sTm : Stmt := topS 63
theorem scTm : FnScope ["_law_names_here", "_law_value"] ["_law_names_here", "_law_value"] (defScope sTm) := ⟨rfl, rfl, rfl, by decide +kernel, rfl, by decide +kernel, by decide +kernel⟩
theorem lim_pow : (10 : Int) ^ (60 : Int).toNat = lim := by decide +kernel
/-- a pair of one of these words and a number -/
def inPair (ws : List Str) : PyData → Bool
  | .tuple [.str z, n] => decide (z ∈ ws) && isIg n
  | _ => false
def spTm : Sp := fun vs H Q _ => ∃ (l : Addr) (ws : List Str) (v : V) (d : PyData), vs = [.ref l, v] ∧ H l = some (.lst (ws.map V.str)) ∧ Shw H v d ∧ Q (.bl (inPair ws d)) H
theorem inPair_len {ws : List Str} {ds : List PyData} (h : ds.length ≠ 2) : inPair ws (.tuple ds) = false := by
  match ds, h with
  | [], _ => rfl
  | [x], _ => cases x <;> rfl
  | [_, _], h => exact absurd rfl h
  | x :: _ :: _ :: _, _ => cases x <;> rfl
section
variable {P : Program} {w : World} {K : PySem.W.Frag} {mg : Str → Option Value} {base : Heap}
theorem ok_tm {f : Addr} {fd : FuncData} (F : Fun K "_law_is_term" "_law_is_term" sTm f fd) (B : Free mg) (bb : mg "bool" = none) (ba : mg "abs" = none) : FnOk P w K mg base CX0 1 f fd ["_law_names_here", "_law_value"] spTm := by
  refine F.ok scTm (fun vs H Q E h => ?_) (fun cdv A outer s H vs Q E hr h => ?_)
  · obtain ⟨l, ws, v, d, rfl, _⟩ := h
    rfl
  · obtain ⟨l, ws, v, d, rfl, hl, sh, q⟩ := h
    refine ⟨_, pss_cons (ps_if (PW.pt (pw_or (pt_not (pt_val (pe_callB call_isi (by rfl) B.isinstance (by decide +kernel) (pa_cons (pv 1) (pa_cons (pe_bltn (v := .ty "tuple") (by rfl) B.tuple (by decide +kernel) rfl) pa_nil)))))
          (pw_or (pt_cmpR op_ne (pe_callB call_len_seq (by rfl) B.len PySem.boot_len (pa_cons (pv 1) pa_nil)) pe_int (nomark _))
          (pw_or (pt_not (pt_val (pe_callB call_isi (by rfl) B.isinstance (by decide +kernel) (pa_cons (pe_ix ix_tup (pv 1) pe_int (fun _ _ => rfl)) (pa_cons (pe_bltn (v := .ty "str") (by rfl) B.str (by decide +kernel) rfl) pa_nil)))))
          (pw_or1 (pt_cmpR (r := rIn K true) op_notIn_seq (pe_ix ix_tup (pv 1) pe_int (fun _ _ => rfl)) (pv 0) (by with_unfolding_all rfl)))))))
        (pss_one (ps_ret pe_bl)) pss_nil)
      (pss_one (ps_ret (pe_and (pe_callB call_isi (by rfl) B.isinstance (by decide +kernel) (pa_cons (pe_ix ix_tup (pv 1) pe_int (fun _ _ => rfl)) (pa_cons (pe_bltn (v := .ty "int") (by rfl) B.int (by decide +kernel) rfl) pa_nil)))
        (pe_and (pe_not (pe_callB call_isi (by rfl) B.isinstance (by decide +kernel) (pa_cons (pe_ix ix_tup (pv 1) pe_int (fun _ _ => rfl)) (pa_cons (pe_bltn (v := .ty "bool") (by rfl) bb (by decide +kernel) rfl) pa_nil))))
        (pe_one (pe_cmpR op_lt (pe_callB call_abs (by rfl) ba (by decide +kernel) (pa_cons (pe_ix ix_tup (pv 1) pe_int (fun _ _ => rfl)) pa_nil)) (pe_op op_pow pe_int pe_int) (nomark _))))))), ?_⟩
    refine ⟨v, rfl, v, .ty "tuple", _, _, isTup d, rfl, .ty _, shw_ty sh, kit_ty (kit_tup d), isTup d, rfl, ?_⟩
    cases sh with
    | non => exact q
    | bl b => exact q
    | int i => exact q
    | str x => exact q
    | lst e _ => exact q
    | dct e => exact q
    | @tup b xs ds e hb =>
      have ln := ShwAll.len hb
      refine ⟨.ref b, rfl, b, xs, rfl, .inr (SqT.of e), rfl, _, rfl, ite2 (fun e1 => ?_) (fun e1 => ?_)⟩
      · have h1 : ds.length ≠ 2 := fun z => by
          rw [ln, z] at e1
          revert e1
          decide +kernel
        rw [inPair_len h1] at q
        exact q
      · have h1 : ds.length = 2 := by
          have e1 : ¬ (!decide (V.int (xs.length : Nat) = V.int 2)) = true := e1
          by_cases h : xs.length = 2
          · omega
          · rw [decide_eq_false (fun k => h (by have := V.int.inj k; omega))] at e1
            exact absurd rfl e1
        obtain ⟨x0, x1, d0, d1, rfl, rfl, s0, s1⟩ := two_of hb h1
        refine ⟨.ref b, rfl, b, _, 0, x0, rfl, rfl, SqT.of e, at0 _ _, x0, .ty "str", _, _, isStrD d0, rfl, .ty _, shw_ty s0, kit_ty (kit_strD d0), isStrD d0, rfl, ?_⟩
        cases s0 with
        | non => exact q
        | bl b => exact q
        | int i => exact q
        | lst e _ => exact q
        | dct e => exact q
        | tup e _ => exact q
        | str z =>
          refine ⟨.ref b, rfl, b, _, 0, .str z, rfl, rfl, SqT.of e, at0 _ _, .ref l, rfl, l, _, rfl, .inl (SqL.of hl), rfl, flat_strs _, _, rfl, ?_⟩
          have ei : (if true = true then !inV (.str z) (ws.map V.str) else inV (.str z) (ws.map V.str)) = !decide (z ∈ ws) := by rw [if_pos rfl, inV_strs]
          rw [ei]
          have q : Q (.bl (decide (z ∈ ws) && isIg d1)) H := q
          by_cases hz : z ∈ ws
          · rw [decide_eq_true hz] at q ⊢
            refine iteF ?_
            refine ⟨.ref b, rfl, b, _, 1, x1, rfl, rfl, SqT.of e, at1 _ _ _, x1, .ty "int", _, _, isIb d1, rfl, .ty _, shw_ty s1, kit_ty (kit_int d1), isIb d1, rfl, ?_⟩
            cases s1 with
            | int i =>
              have e2 : isIg (.int i) = decide ((if i < 0 then -i else i) < lim) := by
                show (decide (-lim < i) && decide (i < lim)) = _
                rw [← Bool.decide_and]
                refine decide_eq_decide.mpr ?_
                split <;> (unfold lim; omega)
              rw [e2, ← lim_pow] at q
              refine ⟨.ref b, rfl, b, _, 1, .int i, rfl, rfl, SqT.of e, at1 _ _ _, _, .ty "bool", _, _, false, rfl, .ty _, shw_ty (.int i), kit_ty (kit_bool (.int i)), _, rfl, _, rfl, .ref b, rfl, b, _, 1, .int i, rfl, rfl, SqT.of e, at1 _ _ _, i, rfl, _, _, rfl, rfl, ?_, _, _, rfl, rfl, q⟩
              exact ⟨by decide, by decide +kernel⟩
            | bl c => exact ⟨.ref b, rfl, b, _, 1, .bl c, rfl, rfl, SqT.of e, at1 _ _ _, _, .ty "bool", _, _, true, rfl, .ty _, shw_ty (.bl c), kit_ty (kit_bool (.bool c)), _, rfl, _, rfl, q⟩
            | non => exact q
            | str x => exact q
            | lst e _ => exact q
            | dct e => exact q
            | tup e _ => exact q
          · rw [decide_eq_false hz] at q ⊢
            exact iteT q
end
end K03

set_option autoImplicit false
set_option maxRecDepth 100000
set_option maxHeartbeats 4000000
/-! the law's own judge of value terms -/
namespace K03
open PySem PySem.Spec PyProof.Rows L2 KX
abbrev sAm : Stmt := topS 64
abbrev nAm : List Str := ["_law_parts_here", "_law_own", "_law_value", "_law_spots", "_law_arrays", "_law_name", "_law_length"]
theorem scAm : FnScope nAm ["_law_parts_here", "_law_own", "_law_value"] (defScope sAm) := ⟨rfl, rfl, rfl, by decide +kernel, rfl, by decide +kernel, by decide +kernel⟩
def spotsW (ps : List (Str × Str)) (qs own : List Str) : List Str := ([""] : List Str) ++ lensOf ps ++ qs ++ own
def amtL (ps : List (Str × Str)) (qs rs own : List Str) : PyData → Bool
  | .tuple [a, n] => inPair ("" :: rs) (.tuple [a, n])
  | .tuple [a, w, s, n] => inPair (spotsW ps qs own) (.tuple [w, s]) && (inPair (ps.map (·.1)) (.tuple [a, n]) && besideT own (.tuple [a, w, s, n]))
  | _ => false
theorem amt_len {ps : List (Str × Str)} {qs rs own : List Str} {ds : List PyData} (h2 : ds.length ≠ 2) (h4 : ds.length ≠ 4) : amtL ps qs rs own (.tuple ds) = false := by
  match ds, h2, h4 with
  | [], _, _ => rfl
  | [_], _, _ => rfl
  | [_, _], h, _ => exact absurd rfl h
  | [_, _, _], _, _ => rfl
  | [_, _, _, _], _, h => exact absurd rfl h
  | _ :: _ :: _ :: _ :: _ :: _, _, _ => rfl
theorem inPair_is {ws : List Str} {d : PyData} (h : inPair ws d = true) : ∃ z i, d = .tuple [.str z, .int i] := by
  match d, h with
  | .tuple [.str z, n], h =>
    have h : (decide (z ∈ ws) && isIg n) = true := h
    rw [Bool.and_eq_true] at h
    obtain ⟨i, rfl⟩ := isIg_int h.2
    exact ⟨z, i, rfl⟩
/-- where no name is another one, this is the program's own judge and what a body asks besides -/
theorem amt_val {ps : List (Str × Str)} {qs rs own : List Str} (h1 : ∀ z n, inPair ("" :: rs) (.tuple [z, n]) = isVal ps qs rs own (.tuple [z, n])) (h2 : ∀ w s, inPair (spotsW ps qs own) (.tuple [w, s]) = isPos ps qs rs own (.tuple [w, s])) (h3 : ∀ a n, inPair (ps.map (·.1)) (.tuple [a, n]) = (isIg n && hasK ps qs rs ["array"] a)) (d : PyData) :
    amtL ps qs rs own d = (isVal ps qs rs own d && besideT own d) := by
  match d with
  | .tuple [] => rfl
  | .tuple [_] => rfl
  | .tuple [a, n] =>
    show inPair ("" :: rs) (.tuple [a, n]) = _
    have b : besideT own (.tuple [a, n]) = true := by cases n <;> rfl
    rw [h1, b, Bool.and_true]
  | .tuple [_, _, _] => rfl
  | .tuple [a, w, s, n] =>
    show (inPair (spotsW ps qs own) (.tuple [w, s]) && (inPair (ps.map (·.1)) (.tuple [a, n]) && besideT own (.tuple [a, w, s, n]))) = ((isIg n && (hasK ps qs rs ["array"] a && isPos ps qs rs own (.tuple [w, s]))) && besideT own (.tuple [a, w, s, n]))
    rw [h2, h3]
    cases isPos ps qs rs own (.tuple [w, s]) <;> cases isIg n <;> cases hasK ps qs rs ["array"] a <;> cases besideT own (.tuple [a, w, s, n]) <;> rfl
  | .tuple (_ :: _ :: _ :: _ :: _ :: _) => rfl
  | .none => rfl
  | .bool _ => rfl
  | .int _ => rfl
  | .str _ => rfl
  | .list _ => rfl
  | .dict _ => rfl
end K03

set_option autoImplicit false
set_option maxRecDepth 100000
set_option maxHeartbeats 4000000
/-! value terms, by the law: the def -/
namespace K03
open PySem PySem.Spec PyProof.Rows L2 KX
section
variable {K : PySem.W.Frag} {H : Hp} {Q : VK} {x y : V} {ds es : List PyData}
theorem ShwAll.append : ∀ {xs ys : List V} {ds es : List PyData}, ShwAll H xs ds → ShwAll H ys es → ShwAll H (xs ++ ys) (ds ++ es)
  | _, _, _, _, .nil, h => h
  | _, _, _, _, .cons a r, h => .cons a (ShwAll.append r h)
/-- t + u -/
theorem cat_shw (h1 : Shw H x (.tuple ds)) (h2 : Shw H y (.tuple es)) (few : ds.length + es.length ≤ sizeLine) (q : ∀ r H', Same H H' → Shw H' r (.tuple (ds ++ es)) → Q r H') : rCatA K x y H Q := by
  obtain ⟨a, xs, rfl, ea, ra⟩ := shwT h1
  obtain ⟨b, ys, rfl, eb, rb⟩ := shwT h2
  have la := ShwAll.len ra
  have lb := ShwAll.len rb
  refine ⟨a, b, xs, ys, rfl, rfl, SqT.of ea, SqT.of eb, by rw [la, lb]; exact few, fun z => ?_, fun _ z => ?_, fun _ _ p np => ?_⟩
  · refine q _ H (Same.refl H) ?_
    subst z
    have : ds = [] := List.length_eq_zero_iff.mp (by rw [← la]; rfl)
    subst this
    exact h2
  · refine q _ H (Same.refl H) ?_
    subst z
    have : es = [] := List.length_eq_zero_iff.mp (by rw [← lb]; rfl)
    subst this
    rw [List.append_nil]
    exact h1
  · have sm := same_upd (p := p) (o := .tup (xs ++ ys)) np
    exact q _ _ sm (.tup upd_same (ShwAll.append (ShwAll.same ra sm) (ShwAll.same rb sm)))
end
def spAm : Sp := fun vs H Q _ => ∃ (l : Addr) (v1 v2 v3 : V) (ps : List (Str × Str)) (qs rs own : List Str) (x v : V) (d : PyData), vs = [.ref l, x, v] ∧ H l = some (.lst [v1, v2, v3]) ∧ Arr H v1 ps ∧ Txts H v2 qs ∧ Txts H v3 rs ∧ Txts H x own ∧ Shw H v d ∧ ps.length ≤ 200 ∧ qs.length ≤ 200 ∧ rs.length ≤ 200 ∧ own.length ≤ 200 ∧
  ∀ H', Same H H' → Q (.bl (amtL ps qs rs own d)) H'
section
variable {P : Program} {w : World} {K : PySem.W.Frag} {mg : Str → Option Value} {base : Heap}
theorem ok_am {f : Addr} {fd : FuncData} (F : Fun K "_law_is_amount" "_law_is_amount" sAm f fd) (B : Free mg) (L : Fnc P w K mg base CX0 1 "_law_lengths" ["_law_parts_here"] spLens2) (Tm : Fnc P w K mg base CX0 1 "_law_is_term" ["_law_names_here", "_law_value"] spTm) : FnOk P w K mg base CX0 2 f fd ["_law_parts_here", "_law_own", "_law_value"] spAm := by
  refine F.ok scAm (fun vs H Q E h => ?_) (fun cdv A outer s H vs Q E hr h => ?_)
  · obtain ⟨l, v1, v2, v3, ps, qs, rs, own, x, v, d, rfl, _⟩ := h
    rfl
  · obtain ⟨l, v1, v2, v3, ps, qs, rs, own, x, v, d, rfl, hl, y1, y2, y3, yo, sh, few1, few2, few3, few4, q⟩ := h
    refine ⟨_, pss_cons (ps_if (PW.pt (pw_or (pt_not (pt_val (pe_callB call_isi (by rfl) B.isinstance (by decide +kernel) (pa_cons (pv 2) (pa_cons (pe_bltn (v := .ty "tuple") (by rfl) B.tuple (by decide +kernel) rfl) pa_nil)))))
          (pw_or1 (pt_cmpR (r := rIn K true) op_notIn_seq (pe_callB call_len_seq (by rfl) B.len PySem.boot_len (pa_cons (pv 2) pa_nil)) (pe_tup (pa_cons pe_int (pa_cons pe_int pa_nil))) (by with_unfolding_all rfl)))))
        (pss_one (ps_ret pe_bl)) pss_nil)
      (pss_cons (ps_if (pt_cmpR op_eq (pe_callB call_len_seq (by rfl) B.len PySem.boot_len (pa_cons (pv 2) pa_nil)) pe_int (nomark _))
        (pss_one (ps_ret (pe_fnc Tm hr (by omega) (by rfl) pass0 (pa_cons (pe_op op_cat (pe_lst (pa_cons pe_str pa_nil)) (pe_callTy call_list_of (by rfl) B.list (by decide +kernel) (pa_cons (pe_ix ix_list (pv 0) pe_int (fun _ _ => rfl)) pa_nil))) (pa_cons (pv 2) pa_nil))))) pss_nil)
      (pss_cons (ps_set (i := 3) scAm.nd rfl (.inl rfl) (pe_op op_cat (pe_op op_cat (pe_op op_cat (pe_lst (pa_cons pe_str pa_nil)) (pe_fnc L hr (by omega) (by rfl) pass0 (pa_cons (pv 0) pa_nil)))
          (pe_callTy call_list_of (by rfl) B.list (by decide +kernel) (pa_cons (pe_ix ix_list (pv 0) pe_int (fun _ _ => rfl)) pa_nil)))
          (pe_callTy call_list_of (by rfl) B.list (by decide +kernel) (pa_cons (pv 1) pa_nil))))
      (pss_cons (ps_setLc (i := 4) (own := [("_law_name", 5), ("_law_length", 6)]) (g := gTup K 2 (gCons (gName 5) (gCons (gName 6) gNil))) (tt := tYes) rfl scAm.nd rfl rfl (sw_true rfl rfl rfl (by decide +kernel)) (pi_tup (pe_ix ix_list (pv 0) pe_int (fun _ _ => rfl))) (blkOk_by (N := nAm) (sc := defScope sAm) (by decide +kernel))
        (fun _ _ _ _ _ => pg_tup rfl (pgs_cons (pg_name (i := 5) scAm.nd rfl (Or.inl rfl) (Or.inr rfl)) (pgs_cons (pg_name (i := 6) scAm.nd rfl (Or.inl rfl) (Or.inr rfl)) pgs_nil))) (fun _ _ _ _ _ => pts_nil) (fun _ _ _ _ _ => pv 5))
      (pss_cons (ps_if (PW.pt (pw_or (pt_not (pt_val (pe_fnc Tm hr (by omega) (by rfl) pass0 (pa_cons (pv 3) (pa_cons (pe_slice sl_tupA (pv 2) (po_some pe_int) (po_some pe_int)) pa_nil)))))
          (pw_or1 (pt_not (pt_val (pe_fnc Tm hr (by omega) (by rfl) pass0 (pa_cons (pv 4) (pa_cons (pe_op op_catA (pe_slice sl_tupA (pv 2) po_none (po_some pe_int)) (pe_slice sl_tupA (pv 2) (po_some pe_int) po_none)) pa_nil))))))))
        (pss_one (ps_ret pe_bl)) pss_nil)
      (pss_one (ps_ret (pe_or (pe_cmpR (r := rIn K true) op_notIn_seq (pe_ix ix_tup (pv 2) pe_int (fun _ _ => rfl)) (pv 1) (by with_unfolding_all rfl)) (pe_one (pe_cmpR op_eq (pe_ix ix_tup (pv 2) pe_int (fun _ _ => rfl)) pe_int (nomark _)))))))))), ?_⟩
    refine ⟨v, rfl, v, .ty "tuple", _, _, isTup d, rfl, .ty _, shw_ty sh, kit_ty (kit_tup d), isTup d, rfl, ?_⟩
    have ll := lensOf_le ps
    cases sh with
    | non => exact q H (Same.refl H)
    | bl b => exact q H (Same.refl H)
    | int i => exact q H (Same.refl H)
    | str x => exact q H (Same.refl H)
    | lst e _ => exact q H (Same.refl H)
    | dct e => exact q H (Same.refl H)
    | @tup b xs ds e hb =>
      have sh0 : Shw H (.ref b) (.tuple ds) := .tup e hb
      have ln := ShwAll.len hb
      refine ⟨.ref b, rfl, b, xs, rfl, .inr (SqT.of e), (by rw [sizeLine_eq]; decide), fun tp ntp => ⟨tp, _, rfl, .inr (SqT.of upd_same), rfl, rfl, _, rfl, ?_⟩⟩
      have sm := same_upd (p := tp) (o := .tup [.int 2, .int 4]) ntp
      generalize upd H tp (.tup [.int 2, .int 4]) = H1 at sm ⊢
      have e' := sm _ _ e
      have hl' := sm _ _ hl
      have q' : ∀ H', Same H1 H' → Q (.bl (amtL ps qs rs own (.tuple ds))) H' := fun H' s' => q H' (sm.trans s')
      refine ite2 (fun e1 => ?_) (fun e1 => ?_)
      · have e1 : (!inV (.int (xs.length : Nat)) [.int 2, .int 4]) = true := e1
        rw [inV_24, ln] at e1
        have h2 : ds.length ≠ 2 := fun h => by rw [h] at e1; revert e1; decide
        have h4 : ds.length ≠ 4 := fun h => by rw [h] at e1; revert e1; decide
        have z := q' H1 (Same.refl H1)
        rw [amt_len h2 h4] at z
        exact z
      · have e1 : ¬ (!inV (.int (xs.length : Nat)) [.int 2, .int 4]) = true := e1
        rw [inV_24, ln] at e1
        have h24 : ds.length = 2 ∨ ds.length = 4 := by
          by_cases h2 : ds.length = 2
          · exact .inl h2
          · by_cases h4 : ds.length = 4
            · exact .inr h4
            · exact absurd (by rw [decide_eq_false h2, decide_eq_false h4]; rfl) e1
        refine ⟨.ref b, rfl, b, xs, rfl, .inr (SqT.of e'), rfl, _, rfl, ?_⟩
        rcases h24 with h2 | h4
        · refine iteT' (decide_eq_true (congrArg V.int (by rw [ln, h2]; rfl))) ?_
          obtain ⟨x0, x1, d0, d1, rfl, rfl, s0, s1⟩ := two_of hb h2
          obtain ⟨a3, rfl, e3⟩ := id y3
          refine ⟨(by rw [sizeLine_eq]; decide), fun r0 n0 => ⟨.ref l, rfl, l, _, 2, .ref a3, rfl, rfl, SqL.of (same_upd n0 _ _ hl'), rfl, a3, _, rfl, .inr (SqT.of (same_upd n0 _ _ (sm _ _ e3))), fun l2 n2 => ?_⟩⟩
          have w0 := same_upd (p := r0) (o := .lst [.str ""]) n0
          have w1 := w0.trans (same_upd (p := l2) (o := .lst (rs.map V.str)) n2)
          refine ⟨r0, l2, _, _, rfl, rfl, same_upd n2 _ _ upd_same, upd_same, ?_, fun r1 n1 => ?_⟩
          · simp only [List.length_map, List.length_cons, List.length_nil, sizeLine_eq]
            omega
          have w2 := w1.trans (same_upd (p := r1) (o := .lst ([.str ""] ++ rs.map V.str)) n1)
          exact ⟨.ref b, rfl, r1, "" :: rs, .ref b, .tuple [d0, d1], rfl, upd_same, Shw.same sh0 (sm.trans w2), q' _ w2⟩
        · refine iteF' (decide_eq_false fun k => by have := V.int.inj k; omega) ?_
          obtain ⟨x0, x1, x2, x3, d0, d1, d2, d3, rfl, rfl, s0, s1, s2, s3⟩ := four_of hb h4
          obtain ⟨b1, ys, rfl, eb1, lb1, at_⟩ := arr_get y1
          obtain ⟨a2, rfl, e2⟩ := id y2
          obtain ⟨a3, rfl, e3⟩ := id y3
          obtain ⟨ax, rfl, ex⟩ := id yo
          refine ⟨(by rw [sizeLine_eq]; decide), fun r0 n0 => ⟨.ref l, rfl, ?_⟩⟩
          have w0 := sm.trans (same_upd (p := r0) (o := .lst [.str ""]) n0)
          have g0 : (upd H1 r0 (.lst [.str ""])) r0 = some (.lst [.str ""]) := upd_same
          have v0 := same_upd (p := r0) (o := .lst [.str ""]) n0
          generalize upd H1 r0 (.lst [.str ""]) = H2 at w0 g0 v0 ⊢
          refine ⟨l, .ref b1, .ref a2, .ref a3, ps, rfl, w0 _ _ hl, Shw.same y1 w0, by omega, fun l1 H3 t3 e4 => ?_⟩
          refine ⟨r0, l1, _, _, rfl, rfl, t3 _ _ g0, e4, ?_, fun r1 n1 => ?_⟩
          · simp only [List.length_map, List.length_cons, List.length_nil, sizeLine_eq]
            omega
          have w1 := w0.trans (t3.trans (same_upd (p := r1) (o := .lst ([.str ""] ++ (lensOf ps).map V.str)) n1))
          have v1' := v0.trans (t3.trans (same_upd (p := r1) (o := .lst ([.str ""] ++ (lensOf ps).map V.str)) n1))
          have g1 : (upd H3 r1 (.lst ([.str ""] ++ (lensOf ps).map V.str))) r1 = some (.lst ([.str ""] ++ (lensOf ps).map V.str)) := upd_same
          generalize upd H3 r1 (.lst ([.str ""] ++ (lensOf ps).map V.str)) = H4 at w1 v1' g1 ⊢
          refine ⟨.ref l, rfl, l, _, 1, .ref a2, rfl, rfl, SqL.of (w1 _ _ hl), rfl, a2, _, rfl, .inr (SqT.of (w1 _ _ e2)), fun l2 n2 => ?_⟩
          have u2 := same_upd (p := l2) (o := .lst (qs.map V.str)) n2
          refine ⟨r1, l2, _, _, rfl, rfl, u2 _ _ g1, upd_same, ?_, fun r2 n3 => ?_⟩
          · simp only [List.length_map, List.length_append, List.length_cons, List.length_nil, sizeLine_eq]
            omega
          have u3 := u2.trans (same_upd (p := r2) (o := .lst (([.str ""] ++ (lensOf ps).map V.str) ++ qs.map V.str)) n3)
          have g3 : (upd (upd H4 l2 (.lst (qs.map V.str))) r2 (.lst (([.str ""] ++ (lensOf ps).map V.str) ++ qs.map V.str))) r2 = some (.lst (([.str ""] ++ (lensOf ps).map V.str) ++ qs.map V.str)) := upd_same
          have w3 := w1.trans u3
          have v3' := v1'.trans u3
          generalize upd (upd H4 l2 (.lst (qs.map V.str))) r2 (.lst (([.str ""] ++ (lensOf ps).map V.str) ++ qs.map V.str)) = H5 at u3 w3 v3' g3 ⊢
          refine ⟨.ref ax, rfl, ax, _, rfl, .inr (SqT.of (w3 _ _ ex)), fun l3 n4 => ?_⟩
          have u4 := same_upd (p := l3) (o := .lst (own.map V.str)) n4
          refine ⟨r2, l3, _, _, rfl, rfl, u4 _ _ g3, upd_same, ?_, fun r3 n5 => ?_⟩
          · simp only [List.length_map, List.length_append, List.length_cons, List.length_nil, sizeLine_eq]
            omega
          have u5 := u4.trans (same_upd (p := r3) (o := .lst ((([.str ""] ++ (lensOf ps).map V.str) ++ qs.map V.str) ++ own.map V.str)) n5)
          have g5 : (upd (upd H5 l3 (.lst (own.map V.str))) r3 (.lst ((([.str ""] ++ (lensOf ps).map V.str) ++ qs.map V.str) ++ own.map V.str))) r3 = some (.lst ((spotsW ps qs own).map V.str)) := by
            rw [upd_same]
            unfold spotsW
            simp only [List.map_append]
            rfl
          have w5 := w3.trans u5
          have v5 := v3'.trans u5
          generalize upd (upd H5 l3 (.lst (own.map V.str))) r3 (.lst ((([.str ""] ++ (lensOf ps).map V.str) ++ qs.map V.str) ++ own.map V.str)) = H6 at w5 v5 g5 ⊢
          refine ⟨.ref l, rfl, l, _, 0, .ref b1, rfl, rfl, SqL.of (w5 _ _ hl), rfl, b1, rfl, ⟨_, SqT.of (w5 _ _ eb1)⟩, fun D nD => ?_⟩
          refine lc_tup (K := K) (a := b1) (xs := ys) (fun m H' => Same H6 H' ∧ H' D = some (.lst ((ps.take m).map fun p => V.str p.1))) ⟨same_upd nD, by rw [List.take_zero]; exact upd_same⟩ (fun m H' _ hP => SqT.of (hP.1 _ _ (w5 _ _ eb1))) (fun m y H' hm hP => ?_) (fun H7 hP => ?_)
          · obtain ⟨t1, k1⟩ := hP
            obtain ⟨p, c, hp, rfl, ec⟩ := at_ m y hm
            refine ⟨c, _, rfl, SqT.of (t1 _ _ (w5 _ _ ec)), rfl, _, _, rfl, _, _, rfl, rfl, rfl, _, rfl, _, k1, ?_, fun c o z => ?_, ?_⟩
            · rw [List.length_map, List.length_take, sizeLine_eq]
              omega
            · rw [upd_ne (ne_of_none z nD)]
              exact t1 _ _ z
            · rw [upd_same, List.take_add_one, hp, List.map_append]
              rfl
          · obtain ⟨t1, k1⟩ := hP
            rw [lb1, List.take_length] at k1
            have k1 : H7 D = some (.lst ((ps.map (·.1)).map V.str)) := by rw [k1, List.map_map]; rfl
            have w7 := w5.trans t1
            have v7 := v5.trans t1
            have g7 := t1 _ _ g5
            have sh7 := Shw.same sh0 w7
            refine ⟨.ref r3, rfl, .ref b, rfl, 1, rfl, 3, rfl, cut_shw sh7 fun c1 H8 t8 sc1 => ?_⟩
            have sc1 : Shw H8 c1 (.tuple [d1, d2]) := sc1
            refine ⟨r3, spotsW ps qs own, c1, .tuple [d1, d2], rfl, t8 _ _ g7, sc1, _, rfl, ?_⟩
            have q8 : ∀ H', Same H8 H' → Q (.bl (inPair (spotsW ps qs own) (.tuple [d1, d2]) && (inPair (ps.map (·.1)) (.tuple [d0, d3]) && besideT own (.tuple [d0, d1, d2, d3])))) H' := fun H' s' => q H' (w7.trans (t8.trans s'))
            cases ei : inPair (spotsW ps qs own) (.tuple [d1, d2]) with
            | false =>
              have z := q8 H8 (Same.refl H8)
              rw [ei] at z
              exact z
            | true =>
              rw [ei] at q8
              have w8 := w7.trans t8
              have sh8 := Shw.same sh0 w8
              refine ⟨.ref D, rfl, .ref b, rfl, 1, rfl, cut_shw sh8 fun c2 H9 t9 sc2 => ?_⟩
              have sc2 : Shw H9 c2 (.tuple [d0]) := sc2
              have w9 := w8.trans t9
              refine ⟨.ref b, rfl, 3, rfl, ?_⟩
              show tNoPart _ _ _
              unfold tNoPart
              refine cut_shw (Shw.same sh0 w9) fun c3 H10 t10 sc3 => ?_
              have sc3 : Shw H10 c3 (.tuple [d3]) := sc3
              refine cat_shw (Shw.same sc2 t10) sc3 (by rw [sizeLine_eq]; show 2 ≤ 16777216; decide) fun c4 H11 t11 sc4 => ?_
              have sc4 : Shw H11 c4 (.tuple [d0, d3]) := sc4
              have t811 := t9.trans (t10.trans t11)
              refine ⟨D, ps.map (·.1), c4, .tuple [d0, d3], rfl, t811 _ _ (t8 _ _ k1), sc4, _, rfl, ?_⟩
              cases ej : inPair (ps.map (·.1)) (.tuple [d0, d3]) with
              | false =>
                have z := q8 H11 t811
                rw [ej] at z
                exact z
              | true =>
                rw [ej] at q8
                have w11 := w8.trans t811
                obtain ⟨z, i, ed⟩ := inPair_is ei
                injection ed with ed
                injection ed with ed1 ed
                injection ed with ed2 _
                subst ed1
                subst ed2
                cases s1
                cases s2
                have e11 := w11 _ _ e
                refine iteF ⟨.ref b, rfl, b, _, 1, .str z, rfl, rfl, SqT.of e11, at1 _ _ _, .ref ax, rfl, ax, _, rfl, .inr (SqT.of (w11 _ _ ex)), rfl, flat_strs _, _, rfl, ?_⟩
                have ek : (if true = true then !inV (.str z) (own.map V.str) else inV (.str z) (own.map V.str)) = !decide (z ∈ own) := by rw [if_pos rfl, inV_strs]
                rw [ek]
                have z8 : Q (.bl (!decide (z ∈ own) || decide (i = 0))) H11 := q8 H11 t811
                refine ite2 (fun k2 => ?_) (fun k2 => ?_)
                · rw [k2] at z8
                  exact z8
                · have k2 : (!decide (z ∈ own)) = false := by simpa using k2
                  rw [k2, Bool.false_or] at z8
                  refine ⟨.ref b, rfl, b, _, 2, .int i, rfl, rfl, SqT.of e11, at2 _ _ _ _, rfl, ?_⟩
                  have c3 : decide (V.int i = V.int 0) = decide (i = 0) := decide_eq_decide.mpr ⟨fun k => V.int.inj k, fun k => congrArg V.int k⟩
                  rw [c3]
                  exact z8
end
end K03

set_option autoImplicit false
set_option maxRecDepth 100000
set_option maxHeartbeats 4000000
/-! few of some items, or all-/
namespace K03
open PySem PySem.Spec PyProof.Rows L2 KX
def spFewM : Sp := fun vs H Q _ => ∃ (a p : Addr) (x y c : Int) (zs : List Str) (n : Nat), vs = [.ref a, .ref p, .int n] ∧ p ≠ a ∧ H a = some (.lst [.int x, .int y, .int c]) ∧ Cr x y c ∧ c ≤ 900000 ∧ H p = some (.lst (zs.map V.str)) ∧ zs.length ≤ 1000 ∧ n ≤ 1000 ∧
  ∀ (l : Addr) (fs ls : List Str) (x' c' : Int) (H' : Hp), fs.length = min n zs.length → (fs ++ ls).Perm zs → Cr x' y c' → c' ≤ c + n → H' a = some (.lst [.int x', .int y, .int c']) → Grw a H H' → l ≠ a → H' l = some (.lst (fs.map V.str)) → Q (.ref l) H'
section
variable {P : Program} {w : World} {K : PySem.W.Frag} {mg : Str → Option Value} {base : Heap}
theorem ok_fewM {f : Addr} {fd : FuncData} (F : Fun K "_law_few_of" "_law_few_of" sFew f fd) (Fi : Fnc P w K mg base CX0 1 "_law_fish" ["_law_creel_here", "_law_total"] spFish) (B : Free mg) (mMin : mg "min" = none) : FnOk P w K mg base CX0 2 f fd ["_law_creel_here", "_law_items", "_law_count"] spFewM := by
  refine F.ok scFew (fun vs H Q E h => ?_) (fun cdv A outer s H vs Q E hr h => ?_)
  · obtain ⟨a, p, x, y, c, zs, n, rfl, _⟩ := h
    rfl
  · obtain ⟨a, p, x, y, c, zs, n, rfl, hpa, ha, C, hc, hp, few, hn, q⟩ := h
    refine ⟨_, pss_cons (ps_par (i := 3) (j := 4) rfl scFew.nd rfl rfl (by decide) rfl rfl (pa_cons (pe_callTy call_list_of (by rfl) B.list (by decide +kernel) (pa_cons (pv 1) pa_nil)) (pa_cons (pe_lst pa_nil) pa_nil)) (by rfl))
      (pss_cons (ps_for PassesOwn.never rfl (pi_range1 (by rfl) B.range (pa_cons (pe_callB (call_min2 rfl) (by rfl) mMin (by decide +kernel) (pa_cons (pv 2) (pa_cons (pe_callB (r := rLen K) call_len_seq (by rfl) B.len PySem.boot_len (pa_cons (pv 1) pa_nil)) pa_nil))) pa_nil)) (pg_name (i := 5) scFew.nd rfl (Or.inl rfl))
        (pss_one (ps_expr (pe_bm PySem.F.plainAttrs_list PySem.F.slot_list_append PySem.F.type_list_append mt_append (pv 4) (pa_cons (pe_bm PySem.F.plainAttrs_list PySem.F.slot_list_pop PySem.F.type_list_pop mt_popAt (pv 3)
          (pa_cons (pe_fnc Fi hr (by omega) (by rfl) pass0 (pa_cons (pv 0) (pa_cons (pe_callB (r := rLen K) call_len_seq (by rfl) B.len PySem.boot_len (pa_cons (pv 3) pa_nil)) pa_nil))) pa_nil)) pa_nil)))))
      (pss_one (ps_ret (pv 4)))), ?_⟩
    refine ⟨_, rfl, p, _, rfl, .inl (SqL.of hp), fun L nL => ⟨by rw [sizeLine_eq]; decide, fun Fd nF => ⟨_, _, rfl, ?_⟩⟩⟩
    have La : L ≠ a := (ne_of_none ha nL).symm
    have Lp : L ≠ p := (ne_of_none hp nL).symm
    have FL : Fd ≠ L := fun z => by rw [z, upd_same] at nF; cases nF
    have sm := (same_upd (p := L) (o := .lst (zs.map V.str)) nL).trans (same_upd (p := Fd) (o := .lst []) nF)
    have Fa : Fd ≠ a := (ne_of_none ((same_upd (p := L) (o := .lst (zs.map V.str)) nL) _ _ ha) nF).symm
    have Fp : Fd ≠ p := (ne_of_none ((same_upd (p := L) (o := .lst (zs.map V.str)) nL) _ _ hp) nF).symm
    have hL : (upd (upd H L (.lst (zs.map V.str))) Fd (.lst [])) L = some (.lst (zs.map V.str)) := by rw [upd_ne FL.symm, upd_same]
    have hF : (upd (upd H L (.lst (zs.map V.str))) Fd (.lst [])) Fd = some (.lst []) := upd_same
    have nb : ∀ b o, H b = some o → b ≠ L ∧ b ≠ Fd := fun b o e => ⟨ne_of_none e nL, ne_of_none ((same_upd (p := L) (o := .lst (zs.map V.str)) nL) _ _ e) nF⟩
    generalize upd (upd H L _) Fd _ = H2 at sm hL hF ⊢
    have en : (if (((zs.map V.str).length : Nat) : Int) < (n : Int) then (((zs.map V.str).length : Nat) : Int) else (n : Int)) = ((min n zs.length : Nat) : Int) := by
      rw [List.length_map]
      split <;> omega
    refine ⟨_, rfl, _, rfl, p, _, rfl, .inl (SqL.of (sm _ _ hp)), n, _, rfl, ((min n zs.length : Nat) : Int), by rw [en], by omega, by omega, ?_⟩
    refine for_range (fun m σ' H' => ∃ (x' c' : Int) (ls fs : List Str) (t : Option V), σ' = [some (.ref a), some (.ref p), some (.int n), some (.ref L), some (.ref Fd), t] ∧ H' a = some (.lst [.int x', .int y, .int c']) ∧ Cr x' y c' ∧ c' ≤ c + m ∧ H' L = some (.lst (ls.map V.str)) ∧ H' Fd = some (.lst (fs.map V.str)) ∧ fs.length = m ∧ (fs ++ ls).Perm zs ∧ Grw a H H')
      ⟨x, c, zs, [], none, rfl, sm _ _ ha, C, by omega, hL, hF, rfl, List.Perm.refl _, fun b o _ e => sm _ _ e⟩ (fun m σ' H' hm hP => ?_) (fun σ' H' hP => ?_)
    · obtain ⟨x', c', ls, fs, t, rfl, ha', C', hc', hl', hf', fl, pm, gw⟩ := hP
      have tot := pm.length_eq
      rw [List.length_append] at tot
      have lm : (ls.map V.str).length = ls.length := List.length_map _
      refine ⟨.ref Fd, rfl, .inl ⟨rfl, _, SqL.of hf'⟩, .ref L, rfl, .inl ⟨rfl, _, SqL.of hl'⟩, .ref a, rfl, .ref L, rfl, L, _, rfl, .inl (SqL.of hl'), a, x', y, c', _, rfl, ha', C', by omega, by omega, by omega, fun r x2 c2 h0 h1 C2 l2 => ?_⟩
      rw [lm] at h1
      have hk : r.toNat < ls.length := by omega
      have er : ((r.toNat : Nat) : Int) = r := Int.toNat_of_nonneg h0
      refine ⟨L, ls.map V.str, r, r.toNat, .str (ls[r.toNat]'hk), rfl, rfl, by rw [upd_ne La]; exact hl', by omega, by omega, by rw [lm]; exact seqIndex_of h0 h1, by rw [List.getElem?_map, List.getElem?_eq_getElem hk]; rfl, ?_⟩
      refine ⟨Fd, fs.map V.str, .str (ls[r.toNat]'hk), rfl, rfl, by rw [upd_ne FL, upd_ne Fa]; exact hf', by rw [List.length_map, sizeLine_eq]; omega, ?_⟩
      refine ⟨x2, c2, ls.eraseIdx r.toNat, fs ++ [ls[r.toNat]'hk], _, rfl, ?_, C2, by omega, ?_, ?_, by rw [List.length_append, List.length_singleton]; omega, ?_, fun b o nba e => ?_⟩
      · rw [upd_ne Fa.symm, upd_ne La.symm, upd_same]
      · rw [upd_ne FL.symm, upd_same, erase_map]
      · rw [upd_same, List.map_append]
        rfl
      · rw [List.append_assoc]
        exact (List.Perm.append_left fs (erase_perm hk)).trans pm
      · obtain ⟨n1, n2⟩ := nb b o e
        rw [upd_ne n2, upd_ne n1, upd_ne nba]
        exact gw b o nba e
    · obtain ⟨x', c', ls, fs, t, rfl, ha', C', hc', hl', hf', fl, pm, gw⟩ := hP
      exact ⟨_, rfl, q Fd fs ls x' c' H' (by rw [fl]; omega) pm C' (by omega) ha' gw Fa hf'⟩
end
end K03

set_option autoImplicit false
set_option maxRecDepth 100000
set_option maxHeartbeats 4000000
/-! drawing: a creel and the law's parts -/
namespace K03
open PySem PySem.Spec PyProof.Rows L2 KX
theorem le_line {n : Nat} (h : n ≤ 1000) : n ≤ sizeLine := Nat.le_trans h (by rw [sizeLine_eq]; decide)
/-- a creel with so many turns done -/
def CrAt (H : Hp) (a : Addr) (y c : Int) : Prop := ∃ x, H a = some (.lst [.int x, .int y, .int c]) ∧ Cr x y c
def PtAt (H : Hp) (l : Addr) (ps : List (Str × Str)) (qs rs : List Str) : Prop := ∃ v1 v2 v3, H l = some (.lst [v1, v2, v3]) ∧ Arr H v1 ps ∧ Txts H v2 qs ∧ Txts H v3 rs
section
variable {a l p : Addr} {y c c' : Int} {H H' : Hp} {ps : List (Str × Str)} {qs rs zs : List Str} {v : V} {xs : List V} {ds : List PyData} {d : PyData}
theorem CrAt.same (h : CrAt H a y c) (s : Same H H') : CrAt H' a y c := by
  obtain ⟨x, e, C⟩ := h
  exact ⟨x, s _ _ e, C⟩
theorem Txts.grw (C : CrAt H a y c) (g : Grw a H H') (h : Txts H v zs) : Txts H' v zs := by
  obtain ⟨x, e, _⟩ := C
  obtain ⟨b, rfl, h⟩ := h
  exact ⟨b, rfl, g _ _ (tup_ne e h) h⟩
theorem Shw.grw (C : CrAt H a y c) (g : Grw a H H') (o : offD d = true) (h : Shw H v d) : Shw H' v d := by
  obtain ⟨x, e, _⟩ := C
  exact Shw.off e g o h
theorem ShwAll.grw (C : CrAt H a y c) (g : Grw a H H') (o : offAll ds = true) (h : ShwAll H xs ds) : ShwAll H' xs ds := by
  obtain ⟨x, e, _⟩ := C
  exact ShwAll.off e g o h
theorem CrAt.ne (C : CrAt H a y c) (n : H p = none) : p ≠ a := by
  obtain ⟨x, e, _⟩ := C
  exact (ne_of_none e n).symm
theorem CrAt.tup (C : CrAt H a y c) (g : Grw a H H') (h : H p = some (.tup xs)) : H' p = some (.tup xs) := by
  obtain ⟨x, e, _⟩ := C
  exact g _ _ (tup_ne e h) h
theorem PtAt.same (h : PtAt H l ps qs rs) (s : Same H H') : PtAt H' l ps qs rs := by
  obtain ⟨v1, v2, v3, e, h1, h2, h3⟩ := h
  exact ⟨v1, v2, v3, s _ _ e, Shw.same h1 s, Txts.same h2 s, Txts.same h3 s⟩
theorem PtAt.grw (C : CrAt H a y c) (g : Grw a H H') (n : l ≠ a) (h : PtAt H l ps qs rs) : PtAt H' l ps qs rs := by
  obtain ⟨v1, v2, v3, e, h1, h2, h3⟩ := h
  exact ⟨v1, v2, v3, g _ _ n e, Shw.grw C g (by simp only [offD, off_prs]) h1, Txts.grw C g h2, Txts.grw C g h3⟩
end
theorem pt_imp {X : Cx} {e : Expr} {t u : TT} (h : PT X e t) (i : ∀ σ H k, u σ H k → t σ H k) : PT X e u := ⟨fun pins s σ H Q I q => h.run pins s σ H Q I (i _ _ _ q)⟩
theorem pe_imp {X : Cx} {e : Expr} {t u : TE} (h : PE X e t) (i : ∀ σ H k, u σ H k → t σ H k) : PE X e u := ⟨fun pins s σ H Q I q => h.run pins s σ H Q I (i _ _ _ q)⟩
/-- what a def that draws is given -/
structure Dw (H : Hp) (a l : Addr) (y c : Int) (ps : List (Str × Str)) (qs rs : List Str) : Prop where
  cr : CrAt H a y c
  pt : PtAt H l ps qs rs
  gp : GoodP ps qs rs
  ne : l ≠ a
/-- data drawn, with so many turns of the creel -/
def Drw (a : Addr) (y c : Int) (k : Nat) (W : PyData → Prop) (H : Hp) (Q : VK) : Prop :=
  ∀ (r : V) (d : PyData) (c' : Int) (H' : Hp), W d → Shw H' r d → CrAt H' a y c' → c' ≤ c + k → Grw a H H' → Q r H'
section
variable {a l p : Addr} {y c c' : Int} {H H' : Hp} {ps : List (Str × Str)} {qs rs zs : List Str} {v : V} {xs : List V} {ds : List PyData} {d : PyData} {Q : VK} {E : XK}
theorem Dw.same (h : Dw H a l y c ps qs rs) (s : Same H H') : Dw H' a l y c ps qs rs := ⟨h.cr.same s, h.pt.same s, h.gp, h.ne⟩
theorem Dw.grw (h : Dw H a l y c ps qs rs) (g : Grw a H H') (C : CrAt H' a y c') : Dw H' a l y c' ps qs rs := ⟨C, h.pt.grw h.cr g h.ne, h.gp, h.ne⟩
/-- _law_fish -/
theorem use_fish {t : Int} (C : CrAt H a y c) (hc : c < 1000000) (t0 : 0 < t) (t1 : t ≤ 1000) (q : ∀ r c' H', 0 ≤ r → r < t → CrAt H' a y c' → c' ≤ c + 1 → Grw a H H' → Q (.int r) H') : spFish [.ref a, .int t] H Q E0 := by
  obtain ⟨x, e, C⟩ := C
  exact ⟨a, x, y, c, t, rfl, e, C, hc, t0, t1, fun r x' c' r0 r1 C' l' => q r c' _ r0 r1 ⟨x', upd_same, C'⟩ l' Grw.upd⟩
/-- _law_one_of, of a list of data -/
theorem use_one (C : CrAt H a y c) (hc : c < 1000000) (hp : H p = some (.lst xs)) (n : p ≠ a) (sh : ShwAll H xs ds) (h0 : 0 < ds.length) (h1 : ds.length ≤ 1000) (o : offAll ds = true) (q : Drw a y c 1 (· ∈ ds) H Q) : spOne [.ref a, .ref p] H Q E0 := by
  obtain ⟨x, e, C⟩ := C
  have ln := ShwAll.len sh
  refine ⟨a, .ref p, x, y, c, rfl, e, C, hc, .inl ⟨p, xs, rfl, hp, n, by omega, by omega, fun r v x' c' hv C' l' => ?_⟩⟩
  obtain ⟨d, hd, sd⟩ := ShwAll.get (ShwAll.off e (Grw.upd (o := .lst [.int x', .int y, .int c'])) o sh) hv
  exact q v d c' _ (List.mem_of_getElem? hd) sd ⟨x', upd_same, C'⟩ l' Grw.upd
theorem shw_strs : ∀ zs : List Str, ShwAll H (zs.map V.str) (zs.map PyData.str)
  | [] => .nil
  | z :: zs => .cons (.str z) (shw_strs zs)
theorem shw_ints : ∀ is : List Int, ShwAll H (is.map V.int) (is.map PyData.int)
  | [] => .nil
  | i :: is => .cons (.int i) (shw_ints is)
theorem off_ints : ∀ is : List Int, offAll (is.map PyData.int) = true
  | [] => rfl
  | i :: is => by simp only [List.map_cons, offAll, offD, off_ints is, Bool.and_self]
/-- of a list of texts -/
theorem use_oneS (C : CrAt H a y c) (hc : c < 1000000) (hp : H p = some (.lst (zs.map V.str))) (n : p ≠ a) (h0 : 0 < zs.length) (h1 : zs.length ≤ 1000) (q : ∀ z c' H', z ∈ zs → CrAt H' a y c' → c' ≤ c + 1 → Grw a H H' → Q (.str z) H') : spOne [.ref a, .ref p] H Q E0 := by
  refine use_one C hc hp n (shw_strs zs) (by rw [List.length_map]; exact h0) (by rw [List.length_map]; exact h1) (off_strs zs) fun r d c' H' m s C' l' g => ?_
  obtain ⟨z, hz, rfl⟩ := List.mem_map.mp m
  cases s
  exact q z c' H' hz C' l' g
/-- of a list of numbers -/
theorem use_oneI {is : List Int} (C : CrAt H a y c) (hc : c < 1000000) (hp : H p = some (.lst (is.map V.int))) (n : p ≠ a) (h0 : 0 < is.length) (h1 : is.length ≤ 1000) (q : ∀ i c' H', i ∈ is → CrAt H' a y c' → c' ≤ c + 1 → Grw a H H' → Q (.int i) H') : spOne [.ref a, .ref p] H Q E0 := by
  refine use_one C hc hp n (shw_ints is) (by rw [List.length_map]; exact h0) (by rw [List.length_map]; exact h1) (off_ints is) fun r d c' H' m s C' l' g => ?_
  obtain ⟨z, hz, rfl⟩ := List.mem_map.mp m
  cases s
  exact q z c' H' hz C' l' g
end
/-! _law_place -/
abbrev sPlc : Stmt := topS 55
abbrev nPlc : List Str := ["_law_creel_here", "_law_parts_here", "_law_own", "_law_names_here"]
theorem scPlc : FnScope nPlc ["_law_creel_here", "_law_parts_here", "_law_own"] (defScope sPlc) := ⟨rfl, rfl, rfl, by decide +kernel, rfl, by decide +kernel, by decide +kernel⟩
def plcW (ps : List (Str × Str)) (qs own : List Str) (d : PyData) : Prop := ∃ z i, d = .tuple [.str z, .int i] ∧ (z = "" ∨ z ∈ lensOf ps ∨ z ∈ qs ∨ z ∈ own) ∧ i ∈ ([0, 0, 1, -1, 2, -3] : List Int)
def spPlc : Sp := fun vs H Q _ => ∃ (a l : Addr) (y c : Int) (ps : List (Str × Str)) (qs rs own : List Str) (x : V), vs = [.ref a, .ref l, x] ∧ Dw H a l y c ps qs rs ∧ c ≤ 990000 ∧ Txts H x own ∧ own.length ≤ 2 ∧ Drw a y c 2 (plcW ps qs own) H Q
section
variable {P : Program} {w : World} {K : PySem.W.Frag} {mg : Str → Option Value} {base : Heap}
theorem ok_plc {f : Addr} {fd : FuncData} (F : Fun K "_law_place" "_law_place" sPlc f fd) (B : Free mg) (L : Fnc P w K mg base CX0 1 "_law_lengths" ["_law_parts_here"] spLens2) (On : Fnc P w K mg base CX0 2 "_law_one_of" ["_law_creel_here", "_law_items"] spOne) :
    FnOk P w K mg base CX0 3 f fd ["_law_creel_here", "_law_parts_here", "_law_own"] spPlc := by
  refine F.ok scPlc (fun vs H Q E h => ?_) (fun cdv A outer s H vs Q E hr h => ?_)
  · obtain ⟨a, l, y, c, ps, qs, rs, own, x, rfl, _⟩ := h
    rfl
  · obtain ⟨a, l, y, c, ps, qs, rs, own, x, rfl, D, hc, yo, lo, q⟩ := h
    refine ⟨_, pss_cons (ps_set (i := 3) scPlc.nd rfl (.inl rfl) (pe_op op_cat (pe_op op_cat (pe_op op_cat (pe_lst (pa_cons pe_str (pa_cons pe_str pa_nil))) (pe_fnc L hr (by omega) (by rfl) pass0 (pa_cons (pv 1) pa_nil)))
        (pe_op op_rep (pe_callTy call_list_of (by rfl) B.list (by decide +kernel) (pa_cons (pe_ix ix_list (pv 1) pe_int (fun _ _ => rfl)) pa_nil)) pe_int))
        (pe_callTy call_list_of (by rfl) B.list (by decide +kernel) (pa_cons (pv 2) pa_nil))))
      (pss_one (ps_ret (pe_tup (pa_cons (pe_fnc On hr (by omega) (by rfl) pass0 (pa_cons (pv 0) (pa_cons (pv 3) pa_nil)))
        (pa_cons (pe_fnc On hr (by omega) (by rfl) pass0 (pa_cons (pv 0) (pa_cons (pe_lst (pa_cons pe_int (pa_cons pe_int (pa_cons pe_int (pa_cons (pe_un un_neg pe_int) (pa_cons pe_int (pa_cons (pe_un un_neg pe_int) pa_nil))))))) pa_nil))) pa_nil))))), ?_⟩
    obtain ⟨v1, v2, v3, hl, y1, y2, y3⟩ := id D.pt
    have ll := lensOf_le ps
    have g1 := D.gp.l1
    have g2 := D.gp.l2
    refine ⟨(by rw [sizeLine_eq]; decide), fun r0 n0 => ⟨.ref l, rfl, ?_⟩⟩
    have w0 := same_upd (p := r0) (o := .lst [.str "", .str ""]) n0
    have e0 : (upd H r0 (.lst [.str "", .str ""])) r0 = some (.lst [.str "", .str ""]) := upd_same
    generalize upd H r0 (.lst [.str "", .str ""]) = H1 at w0 e0 ⊢
    refine ⟨l, v1, v2, v3, ps, rfl, w0 _ _ hl, Shw.same y1 w0, by omega, fun l1 H2 t1 e1 => ?_⟩
    refine ⟨r0, l1, _, _, rfl, rfl, t1 _ _ e0, e1, ?_, fun r1 n1 => ?_⟩
    · simp only [List.length_map, List.length_cons, List.length_nil, sizeLine_eq]
      omega
    have w1 := (w0.trans t1).trans (same_upd (p := r1) (o := .lst ([.str "", .str ""] ++ (lensOf ps).map V.str)) n1)
    have e2 : (upd H2 r1 (.lst ([.str "", .str ""] ++ (lensOf ps).map V.str))) r1 = some (.lst ([.str "", .str ""] ++ (lensOf ps).map V.str)) := upd_same
    generalize upd H2 r1 (.lst ([.str "", .str ""] ++ (lensOf ps).map V.str)) = H3 at w1 e2 ⊢
    obtain ⟨a2, rfl, ea2⟩ := id y2
    obtain ⟨ax, rfl, eax⟩ := id yo
    refine ⟨.ref l, rfl, l, _, 1, .ref a2, rfl, rfl, SqL.of (w1 _ _ hl), rfl, a2, _, rfl, .inr (SqT.of (w1 _ _ ea2)), fun l2 n2 => ?_⟩
    have w2 := same_upd (p := l2) (o := .lst (qs.map V.str)) n2
    refine ⟨l2, 2, _, rfl, rfl, upd_same, by decide, by decide, ?_, fun r2 n3 => ?_⟩
    · rw [List.length_map, sizeLine_eq]
      show _ * 2 ≤ _
      omega
    have w3 := same_upd (p := r2) (o := .lst (List.replicate (Int.toNat 2) (qs.map V.str)).flatten) n3
    have ef : (List.replicate (Int.toNat 2) (qs.map V.str)).flatten = (qs ++ qs).map V.str := by
      show (List.replicate 2 (qs.map V.str)).flatten = _
      simp [List.replicate]
    refine ⟨r1, r2, _, _, rfl, rfl, w3 _ _ (w2 _ _ e2), upd_same, ?_, fun r3 n4 => ?_⟩
    · rw [ef]
      simp only [List.length_map, List.length_append, List.length_cons, List.length_nil, sizeLine_eq]
      omega
    have w4 := w1.trans ((w2.trans w3).trans (same_upd (p := r3) (o := .lst (([.str "", .str ""] ++ (lensOf ps).map V.str) ++ (List.replicate (Int.toNat 2) (qs.map V.str)).flatten)) n4))
    have e4 : (upd (upd (upd H3 l2 (.lst (qs.map V.str))) r2 (.lst (List.replicate (Int.toNat 2) (qs.map V.str)).flatten)) r3 (.lst (([.str "", .str ""] ++ (lensOf ps).map V.str) ++ (List.replicate (Int.toNat 2) (qs.map V.str)).flatten))) r3 = some (.lst (((["", ""] : List Str) ++ lensOf ps ++ (qs ++ qs)).map V.str)) := by
      rw [upd_same, ef]
      simp only [List.map_append]
      rfl
    generalize upd (upd (upd H3 l2 _) r2 _) r3 _ = H4 at w4 e4 ⊢
    refine ⟨.ref ax, rfl, ax, _, rfl, .inr (SqT.of (w4 _ _ eax)), fun l3 n5 => ?_⟩
    have w5 := same_upd (p := l3) (o := .lst (own.map V.str)) n5
    refine ⟨r3, l3, _, _, rfl, rfl, w5 _ _ e4, upd_same, ?_, fun r4 n6 => ?_⟩
    · simp only [List.length_map, List.length_append, List.length_cons, List.length_nil, sizeLine_eq]
      omega
    have w6 := w4.trans (w5.trans (same_upd (p := r4) (o := .lst (((["", ""] : List Str) ++ lensOf ps ++ (qs ++ qs)).map V.str ++ own.map V.str)) n6))
    have e6 : (upd (upd H4 l3 (.lst (own.map V.str))) r4 (.lst (((["", ""] : List Str) ++ lensOf ps ++ (qs ++ qs)).map V.str ++ own.map V.str))) r4 = some (.lst (((["", ""] : List Str) ++ lensOf ps ++ (qs ++ qs) ++ own).map V.str)) := by
      rw [upd_same, ← List.map_append]
    have m6 : r4 ≠ a := (D.cr.same (w4.trans w5)).ne n6
    generalize upd (upd H4 l3 _) r4 _ = H5 at w6 e6 ⊢
    refine ⟨.ref a, rfl, .ref r4, rfl, ?_⟩
    (show tNil _ _ _; unfold tNil)
    refine use_oneS (D.cr.same w6) (by omega) e6 m6 ?_ ?_ fun z c1 H6 hz C1 l1 G1 => ?_
    · simp only [List.length_append, List.length_cons, List.length_nil]
      omega
    · simp only [List.length_append, List.length_cons, List.length_nil]
      omega
    refine ⟨.ref a, rfl, 1, rfl, 3, rfl, (by rw [sizeLine_eq]; decide), fun r5 n7 => ?_⟩
    have w7 := same_upd (p := r5) (o := .lst (([0, 0, 1, -1, 2, -3] : List Int).map V.int)) n7
    refine use_oneI (is := [0, 0, 1, -1, 2, -3]) (C1.same w7) (by omega) upd_same (C1.ne n7) (by decide) (by decide) fun i c2 H7 hi C2 l2 G2 => ?_
    refine ⟨le_line (by simp), fun t nt => ?_⟩
    have w8 := same_upd (p := t) (o := .tup [.str z, .int i]) nt
    refine q _ (.tuple [.str z, .int i]) c2 _ ⟨z, i, rfl, ?_, hi⟩ (.tup upd_same (.cons (.str z) (.cons (.int i) .nil))) (C2.same w8) (by omega) ((((Grw.of w6).trans G1).trans ((Grw.of w7).trans G2)).trans (Grw.of w8))
    simp only [List.mem_append, List.mem_cons, List.not_mem_nil, or_false] at hz
    rcases hz with (((h | h) | h) | (h | h)) | h
    · exact .inl h
    · exact .inl h
    · exact .inr (.inl h)
    · exact .inr (.inr (.inl h))
    · exact .inr (.inr (.inl h))
    · exact .inr (.inr (.inr h))
end
end K03

set_option autoImplicit false
set_option maxRecDepth 100000
set_option maxHeartbeats 4000000
/-! a list beside an empty list, a tuple beside an empty tuple, whatever is in it -/
namespace KX
open PySem PySem.Spec PyProof.Rows L2 PySem.SeqAt
section
variable {X : Cx}
def NilBy (K : PySem.W.Frag) (H : Hp) (x y : V) (xs : List V) : Prop := ∃ a b, x = .ref a ∧ y = .ref b ∧ ((SqL K H a xs ∧ SqL K H b []) ∨ (SqT K H a xs ∧ SqT K H b []))
def rEqNil (K : PySem.W.Frag) : R2 := fun x y H Q => ∃ xs, NilBy K H x y xs ∧ Q (.bl xs.isEmpty) H
def rNeNil (K : PySem.W.Frag) : R2 := fun x y H Q => ∃ xs, NilBy K H x y xs ∧ Q (.bl (!xs.isEmpty)) H
theorem op_eqNil (hu : X.A.units + 64 < cLine) : OpR X (compareOp .Eq) (rEqNil X.K) := by
  intro pins s σ H x y v u Q I rx ry h
  obtain ⟨xs, ⟨a, b, rfl, rfl, h⟩, q⟩ := h
  have hu' : X.A.units < cLine := by omega
  cases rx
  cases ry
  rcases h with ⟨h1, h2⟩ | ⟨h1, h2⟩
  · obtain ⟨us, r1, p1, _⟩ := I.list h1
    obtain ⟨ws, r2, p2, _⟩ := I.list h2
    cases r2
    cases xs with
    | nil =>
      cases r1
      exact RcAt.lists (e := fun _ => true) p1.isList p2.isList rfl hu' (fun j h1 _ => absurd h1 (by simp)) X.prog X.w _ _ ⟨.bl _, H, I, rfl, q⟩
    | cons z zs =>
      cases r1
      exact RcAt.lists_lengths p1.isList p2.isList (by simp) hu' X.prog X.w _ _ ⟨.bl _, H, I, rfl, q⟩
  · obtain ⟨us, r1, p1, _⟩ := I.tuple h1
    obtain ⟨ws, r2, p2, _⟩ := I.tuple h2
    cases r2
    have z := RcAt.tuples (A := X.A) (e := fun _ => true) (show s.heap.IsTuple a us.toArray from p1) (show s.heap.IsTuple b #[] from p2) hu' (fun j _ h2 => absurd h2 (Nat.not_lt_zero j)) X.prog X.w
    cases xs with
    | nil =>
      cases r1
      exact z _ _ ⟨.bl _, H, I, rfl, q⟩
    | cons z0 zs =>
      cases r1
      exact z _ _ ⟨.bl _, H, I, rfl, q⟩
theorem op_neNil (hu : X.A.units + 64 < cLine) : OpR X (compareOp .NotEq) (rNeNil X.K) := by
  intro pins s σ H x y v u Q I rx ry h
  obtain ⟨xs, ⟨a, b, rfl, rfl, h⟩, q⟩ := h
  have hu' : X.A.units + 1 < cLine := by omega
  cases rx
  cases ry
  rcases h with ⟨h1, h2⟩ | ⟨h1, h2⟩
  · obtain ⟨us, r1, p1, _⟩ := I.list h1
    obtain ⟨ws, r2, p2, _⟩ := I.list h2
    cases r2
    cases xs with
    | nil =>
      cases r1
      exact RcNeAt.lists (e := fun _ => true) p1.isList p2.isList rfl (by omega) (fun j h1 _ => absurd h1 (by simp)) X.prog X.w _ _ ⟨.bl _, H, I, rfl, q⟩
    | cons z zs =>
      cases r1
      exact RcNeAt.lists_lengths p1.isList p2.isList (by simp) (by omega) X.prog X.w _ _ ⟨.bl _, H, I, rfl, q⟩
  · obtain ⟨us, r1, p1, _⟩ := I.tuple h1
    obtain ⟨ws, r2, p2, _⟩ := I.tuple h2
    cases r2
    have z := RcNeAt.tuples (A := X.A) (e := fun _ => true) (show s.heap.IsTuple a us.toArray from p1) (show s.heap.IsTuple b #[] from p2) (by omega) (fun j _ h2 => absurd h2 (Nat.not_lt_zero j)) X.prog X.w
    cases xs with
    | nil =>
      cases r1
      exact z _ _ ⟨.bl _, H, I, rfl, q⟩
    | cons z0 zs =>
      cases r1
      exact z _ _ ⟨.bl _, H, I, rfl, q⟩
end
end KX

set_option autoImplicit false
set_option maxRecDepth 100000
set_option maxHeartbeats 4000000
/-! one of a tuple; _law_worth -/
namespace K03
open PySem PySem.Spec PyProof.Rows L2 KX
def spOneT : Sp := fun vs H Q _ => ∃ (a p : Addr) (xs : List V) (y c : Int), vs = [.ref a, .ref p] ∧ CrAt H a y c ∧ c < 1000000 ∧ H p = some (.tup xs) ∧ 0 < xs.length ∧ xs.length ≤ 1000 ∧
  ∀ (r : Nat) v c' H', xs[r]? = some v → CrAt H' a y c' → c' ≤ c + 1 → Grw a H H' → Q v H'
section
variable {P : Program} {w : World} {K : PySem.W.Frag} {mg : Str → Option Value} {base : Heap}
theorem ok_oneT {f : Addr} {fd : FuncData} (F : Fun K "_law_one_of" "_law_one_of" sOne f fd) (Fi : Fnc P w K mg base CX0 1 "_law_fish" ["_law_creel_here", "_law_total"] spFish) (B : Free mg) :
    FnOk P w K mg base CX0 2 f fd ["_law_creel_here", "_law_items"] spOneT := by
  refine F.ok scOne (fun vs H Q E h => ?_) (fun cdv A outer s H vs Q E hr h => ?_)
  · obtain ⟨a, p, xs, y, c, rfl, _⟩ := h
    rfl
  · obtain ⟨a, p, xs, y, c, rfl, C, hc, hp, h0, h1, q⟩ := h
    refine ⟨_, pss_one (ps_ret (pe_ix ix_tup (pv 1) (pe_fnc Fi hr (by omega) (by rfl) pass0 (pa_cons (pv 0) (pa_cons (pe_callB call_len_seq (by rfl) B.len PySem.boot_len (pa_cons (pv 1) pa_nil)) pa_nil))) (fun _ _ => rfl))), ?_⟩
    refine ⟨.ref p, rfl, .ref a, rfl, .ref p, rfl, p, xs, rfl, .inr (SqT.of hp), ?_⟩
    (first | refine (use_fish (t := (xs.length : Int)) C hc (by omega) (by omega) fun r c' H' r0 r1 C' l' g => ?_) | (show tNil _ _ _; unfold tNil; refine (use_fish (t := (xs.length : Int)) C hc (by omega) (by omega) fun r c' H' r0 r1 C' l' g => ?_)) | ((try unfold tCons); (try unfold tNil); (try unfold tC); refine (use_fish (t := (xs.length : Int)) C hc (by omega) (by omega) fun r c' H' r0 r1 C' l' g => ?_)))
    have hrl : r.toNat < xs.length := by omega
    have er : ((r.toNat : Nat) : Int) = r := Int.toNat_of_nonneg r0
    obtain ⟨x0, e0, _⟩ := id C
    refine ⟨p, xs, r, xs[r.toNat], rfl, rfl, SqT.of (g _ _ (tup_ne e0 hp) hp), ?_, q r.toNat _ c' H' (List.getElem?_eq_getElem hrl) C' l' g⟩
    have z := atI_nat (xs := xs) (List.getElem?_eq_getElem hrl)
    rw [er] at z
    exact z
end
abbrev sWth : Stmt := topS 56
abbrev nWth : List Str := ["_law_creel_here", "_law_parts_here", "_law_own", "_law_spot"]
theorem scWth : FnScope nWth ["_law_creel_here", "_law_parts_here", "_law_own"] (defScope sWth) := ⟨rfl, rfl, rfl, by decide +kernel, rfl, by decide +kernel, by decide +kernel⟩
def OW6 : List Str := ["k", "kk", "j", "own", "l", "q"]
theorem OW6_okS : okS OW6 := by
  have h : (OW6.all fun z => PyData.strOk z) = true := by decide +kernel
  exact fun z hz => List.all_eq_true.mp h z hz
def wthW (ps : List (Str × Str)) (qs rs own : List Str) (d : PyData) : Prop :=
  (∃ z i, d = .tuple [.str z, .int i] ∧ (z = "" ∨ z ∈ rs) ∧ i ∈ ([0, 0, 1, -2] : List Int)) ∨
  (∃ n z i j, d = .tuple [.str n, .str z, .int i, .int j] ∧ n ∈ ps.map (·.1) ∧ (((z = "" ∨ z ∈ lensOf ps ∨ z ∈ qs) ∧ i ∈ ([0, 0, 1, -1, 2, -3] : List Int)) ∨ (z ∈ own ∧ i = 0)) ∧ j ∈ ([0, 0, 0, 1, -1] : List Int))
def spWth : Sp := fun vs H Q _ => ∃ (a l : Addr) (y c : Int) (ps : List (Str × Str)) (qs rs own : List Str) (x : V), vs = [.ref a, .ref l, x] ∧ Dw H a l y c ps qs rs ∧ c ≤ 980000 ∧ Txts H x own ∧ own.length ≤ 2 ∧ (∀ z ∈ own, z ∈ OW6) ∧ Drw a y c 8 (wthW ps qs rs own) H Q
section
variable {P : Program} {w : World} {K : PySem.W.Frag} {mg : Str → Option Value} {base : Heap}
theorem strs_shaped {zs : List Str} (h : okS zs) : SeqAt.shaped (.tuple (zs.map PyData.str)) = true := by
  have c : PyData.canLay0 (.tuple (zs.map PyData.str)) = true := by simp only [PyData.canLay0, strs_lay h]
  have d : PyData.depth (.tuple (zs.map PyData.str)) ≤ 64 := by
    simp only [PyData.depth, strs_depth]
    omega
  unfold SeqAt.shaped
  rw [c, decide_eq_true d]
  rfl
theorem prs_shaped {ps : List (Str × Str)} (h1 : okS (ps.map (·.1))) (h2 : okS (ps.map (·.2))) : SeqAt.shaped (.tuple (ps.map prD)) = true := by
  have c : PyData.canLay0 (.tuple (ps.map prD)) = true := by simp only [PyData.canLay0, prs_lay h1 h2]
  have d : PyData.depth (.tuple (ps.map prD)) ≤ 64 := by
    have := prs_depth ps
    simp only [PyData.depth]
    omega
  unfold SeqAt.shaped
  rw [c, decide_eq_true d]
  rfl
theorem W16_okS : okS W16 := fun z hz => (LW_ok z (List.mem_append_left _ hz)).2.2.1
theorem eqv_tnil (ds : List PyData) : PyData.eqv (.tuple ds) (.tuple []) = ds.isEmpty := by
  cases ds <;> simp [PyData.eqv, PyData.eqvAll]
theorem GoodP.s1 {ps : List (Str × Str)} {qs rs : List Str} (g : GoodP ps qs rs) : SeqAt.shaped (.tuple (ps.map prD)) = true := prs_shaped (fun z hz => by
  obtain ⟨p, hp, rfl⟩ := List.mem_map.mp hz
  exact W16_okS _ (g.m1 p hp).1) (fun z hz => by
  obtain ⟨p, hp, rfl⟩ := List.mem_map.mp hz
  exact W16_okS _ (g.m1 p hp).2)
theorem ok_wth {f : Addr} {fd : FuncData} (F : Fun K "_law_worth" "_law_worth" sWth f fd) (B : Free mg) (Fi : Fnc P w K mg base CX0 1 "_law_fish" ["_law_creel_here", "_law_total"] spFish) (On : Fnc P w K mg base CX0 2 "_law_one_of" ["_law_creel_here", "_law_items"] spOne)
    (OT : Fnc P w K mg base CX0 2 "_law_one_of" ["_law_creel_here", "_law_items"] spOneT) (Pl : Fnc P w K mg base CX0 3 "_law_place" ["_law_creel_here", "_law_parts_here", "_law_own"] spPlc) :
    FnOk P w K mg base CX0 4 f fd ["_law_creel_here", "_law_parts_here", "_law_own"] spWth := by
  refine F.ok scWth (fun vs H Q E h => ?_) (fun cdv A outer s H vs Q E hr h => ?_)
  · obtain ⟨a, l, y, c, ps, qs, rs, own, x, rfl, _⟩ := h
    rfl
  · obtain ⟨a, l, y, c, ps, qs, rs, own, x, rfl, D, hc, yo, lo, ho, q⟩ := h
    have oko : okS own := fun z hz => OW6_okS z (ho z hz)
    refine ⟨_, pss_cons (ps_if (pt_imp (PW.pt (pw_or (pt_cmpR (op_eqD hr.units) (pe_ix ix_list (pv 1) pe_int (fun _ _ => rfl)) (pe_tup pa_nil) (nomark _)) (pw_or1 (pt_cmpR op_lt (pe_fnc Fi hr (by omega) (by rfl) pass0 (pa_cons (pv 0) (pa_cons pe_int pa_nil))) pe_int (nomark _)))))
          (u := fun σ H1 k => σ = [some (.ref a), some (.ref l), some x, none] ∧ H1 = H ∧ ∀ b c' H', (b = false → ps ≠ []) → Grw a H H' → CrAt H' a y c' → c' ≤ c + 1 → k b H') (fun σ H1 k h => ?_))
        (pss_one (ps_ret (pe_tup (pa_cons (pe_fnc On hr (by omega) (by rfl) pass0 (pa_cons (pv 0) (pa_cons (pe_op op_cat (pe_lst (pa_cons pe_str (pa_cons pe_str pa_nil))) (pe_op op_rep (pe_callTy call_list_of (by rfl) B.list (by decide +kernel) (pa_cons (pe_ix ix_list (pv 1) pe_int (fun _ _ => rfl)) pa_nil)) pe_int)) pa_nil)))
          (pa_cons (pe_fnc On hr (by omega) (by rfl) pass0 (pa_cons (pv 0) (pa_cons (pe_lst (pa_cons pe_int (pa_cons pe_int (pa_cons pe_int (pa_cons (pe_un un_neg pe_int) pa_nil))))) pa_nil))) pa_nil))))) pss_nil)
      (pss_cons (ps_set (i := 3) scWth.nd rfl (.inl rfl) (pe_fnc Pl hr (by omega) (by rfl) pass0 (pa_cons (pv 0) (pa_cons (pv 1) (pa_cons (pe_tup pa_nil) pa_nil)))))
      (C8.pss_cut (ps_if (PW.pt (pw_and (pt_cmpR (op_neD hr.units) (pv 2) (pe_tup pa_nil) (nomark _)) (pw_and1 (pt_cmpR op_gt (pe_fnc Fi hr (by omega) (by rfl) pass0 (pa_cons (pv 0) (pa_cons pe_int pa_nil))) pe_int (nomark _)))))
        (pss_one (ps_set (i := 3) scWth.nd rfl (.inl rfl) (pe_tup (pa_cons (pe_fnc OT hr (by omega) (by rfl) pass0 (pa_cons (pv 0) (pa_cons (pv 2) pa_nil))) (pa_cons pe_int pa_nil))))) pss_nil)
      (pss_one (ps_ret (pe_op op_catA (pe_op op_catA (pe_tup (pa_cons (pe_ix ix_tup (pe_fnc OT hr (by omega) (by rfl) pass0 (pa_cons (pv 0) (pa_cons (pe_ix ix_list (pv 1) pe_int (fun _ _ => rfl)) pa_nil))) pe_int (fun _ _ => rfl)) pa_nil)) (pv 3))
        (pe_tup (pa_cons (pe_fnc On hr (by omega) (by rfl) pass0 (pa_cons (pv 0) (pa_cons (pe_lst (pa_cons pe_int (pa_cons pe_int (pa_cons pe_int (pa_cons pe_int (pa_cons (pe_un un_neg pe_int) pa_nil)))))) pa_nil))) pa_nil))))))), ?_⟩
    · obtain ⟨rfl, rfl, k1⟩ := h
      obtain ⟨v1, v2, v3, hl, y1, y2, y3⟩ := id D.pt
      refine ⟨.ref l, rfl, l, _, 0, v1, rfl, rfl, SqL.of hl, rfl, (le_line (by simp)), fun t nt => ?_⟩
      have w1 := same_upd (p := t) (o := .tup []) nt
      have C1 := D.cr.same w1
      refine ⟨_, _, Shw.dp (SeqAt.canLay_of_shaped D.gp.s1) (Shw.same y1 w1), .tup (SqT.of upd_same) .nil, D.gp.s1, by decide +kernel, _, rfl, ?_⟩
      rw [eqv_tnil]
      cases ps with
      | nil => exact iteT (k1 true c _ (fun h => nomatch h) (Grw.of w1) C1 (by omega))
      | cons p0 ps' =>
        refine iteF ⟨.ref a, rfl, ?_⟩
        (first | refine (use_fish (t := 5) C1 (by omega) (by decide) (by decide) fun r c' H' r0 r1 C' l' g => ?_) | (show tNil _ _ _; unfold tNil; refine (use_fish (t := 5) C1 (by omega) (by decide) (by decide) fun r c' H' r0 r1 C' l' g => ?_)) | ((try unfold tCons); (try unfold tNil); (try unfold tC); refine (use_fish (t := 5) C1 (by omega) (by decide) (by decide) fun r c' H' r0 r1 C' l' g => ?_)))
        exact ⟨r, 2, rfl, rfl, _, rfl, k1 _ c' H' (fun _ h => nomatch h) ((Grw.of w1).trans g) C' l'⟩
    · refine ⟨rfl, rfl, fun b c1 H1 hb G1 C1 l1 => ?_⟩
      have D1 := D.grw G1 C1
      obtain ⟨v1, v2, v3, hl, y1, y2, y3⟩ := id D1.pt
      have g1 := D.gp.l1
      have g3 := D.gp.l3
      cases b with
      | true =>
        obtain ⟨a3, rfl, ea3⟩ := id y3
        refine iteT ⟨.ref a, rfl, (le_line (by simp)), fun r0 n0 => ?_⟩
        have w0 := same_upd (p := r0) (o := .lst [.str "", .str ""]) n0
        refine ⟨.ref l, rfl, l, _, 2, .ref a3, rfl, rfl, SqL.of (w0 _ _ hl), rfl, a3, _, rfl, .inr (SqT.of (w0 _ _ ea3)), fun l2 n2 => ?_⟩
        have w2 := same_upd (p := l2) (o := .lst (rs.map V.str)) n2
        refine ⟨l2, 2, _, rfl, rfl, upd_same, by decide, by decide, ?_, fun r2 n3 => ?_⟩
        · rw [List.length_map, sizeLine_eq]
          show _ * 2 ≤ _
          omega
        have w3 := same_upd (p := r2) (o := .lst (List.replicate (Int.toNat 2) (rs.map V.str)).flatten) n3
        have ef : (List.replicate (Int.toNat 2) (rs.map V.str)).flatten = (rs ++ rs).map V.str := by
          show (List.replicate 2 (rs.map V.str)).flatten = _
          simp [List.replicate]
        refine ⟨r0, r2, _, _, rfl, rfl, w3 _ _ (w2 _ _ upd_same), upd_same, ?_, fun r3 n4 => ?_⟩
        · rw [ef]
          simp only [List.length_map, List.length_append, List.length_cons, List.length_nil, sizeLine_eq]
          omega
        have w4 := w0.trans ((w2.trans w3).trans (same_upd (p := r3) (o := .lst ([.str "", .str ""] ++ (List.replicate (Int.toNat 2) (rs.map V.str)).flatten)) n4))
        have e4 : (upd (upd (upd (upd H1 r0 (.lst [.str "", .str ""])) l2 (.lst (rs.map V.str))) r2 (.lst (List.replicate (Int.toNat 2) (rs.map V.str)).flatten)) r3 (.lst ([.str "", .str ""] ++ (List.replicate (Int.toNat 2) (rs.map V.str)).flatten))) r3 = some (.lst ((([""] : List Str) ++ (([""] : List Str) ++ (rs ++ rs))).map V.str)) := by
          rw [upd_same, ef]
          rfl
        have m4 : r3 ≠ a := (C1.same (w0.trans (w2.trans w3))).ne n4
        generalize upd (upd (upd (upd H1 r0 _) l2 _) r2 _) r3 _ = H4 at w4 e4 ⊢
        (show tNil _ _ _; unfold tNil)
        refine use_oneS (C1.same w4) (by omega) e4 m4 ?_ ?_ fun z c2 H6 hz C2 l2 G2 => ?_
        · simp only [List.length_append, List.length_cons, List.length_nil]
          omega
        · simp only [List.length_append, List.length_cons, List.length_nil]
          omega
        refine ⟨.ref a, rfl, 2, rfl, (le_line (by simp)), fun r5 n7 => ?_⟩
        have w7 := same_upd (p := r5) (o := .lst (([0, 0, 1, -2] : List Int).map V.int)) n7
        refine use_oneI (is := [0, 0, 1, -2]) (C2.same w7) (by omega) upd_same (C2.ne n7) (by decide) (by decide) fun i c3 H7 hi C3 l3 G3 => ?_
        refine ⟨le_line (by simp), fun t nt => ?_⟩
        have w8 := same_upd (p := t) (o := .tup [.str z, .int i]) nt
        refine q _ (.tuple [.str z, .int i]) c3 _ (.inl ⟨z, i, rfl, ?_, hi⟩) (.tup upd_same (.cons (.str z) (.cons (.int i) .nil))) (C3.same w8) (by omega) (((G1.trans (Grw.of w4)).trans G2).trans (((Grw.of w7).trans G3).trans (Grw.of w8)))
        simp only [List.mem_append, List.mem_cons, List.not_mem_nil, or_false] at hz
        rcases hz with h | h | h | h
        · exact .inl h
        · exact .inl h
        · exact .inr h
        · exact .inr h
      | false =>
        have hne : ps ≠ [] := hb rfl
        refine iteF ⟨.ref a, rfl, .ref l, rfl, (le_line (by simp)), fun t nt => ?_⟩
        have w1 := same_upd (p := t) (o := .tup []) nt
        refine ⟨a, l, y, c1, ps, qs, rs, [], .ref t, rfl, D1.same w1, by omega, ⟨t, rfl, upd_same⟩, by decide, fun sp d c2 H2 hd sd C2 l2 G2 => ?_⟩
        have G12 := (G1.trans (Grw.of w1)).trans G2
        have D2 := D.grw G12 C2
        have y2o := Txts.grw D.cr G12 yo
        refine ⟨fun σ' H' => ∃ (v : V) (c' : Int) (z : Str) (i : Int), σ' = [some (.ref a), some (.ref l), some x, some v] ∧ Grw a H H' ∧ CrAt H' a y c' ∧ c' ≤ c + 5 ∧ Shw H' v (.tuple [.str z, .int i]) ∧ (((z = "" ∨ z ∈ lensOf ps ∨ z ∈ qs) ∧ i ∈ ([0, 0, 1, -1, 2, -3] : List Int)) ∨ (z ∈ own ∧ i = 0)), ?_, ?_⟩
        · obtain ⟨z, i, rfl, hz, hi⟩ := hd
          have base : ((z = "" ∨ z ∈ lensOf ps ∨ z ∈ qs) ∧ i ∈ ([0, 0, 1, -1, 2, -3] : List Int)) ∨ (z ∈ own ∧ i = 0) := by
            refine .inl ⟨?_, hi⟩
            rcases hz with h | h | h | h
            · exact .inl h
            · exact .inr (.inl h)
            · exact .inr (.inr h)
            · cases h
          obtain ⟨ax, rfl, eax⟩ := id y2o
          refine ⟨.ref ax, rfl, (le_line (by simp)), fun t2 nt2 => ?_⟩
          have w3 := same_upd (p := t2) (o := .tup []) nt2
          have C3 := C2.same w3
          have G3 := G12.trans (Grw.of w3)
          refine ⟨.tuple (own.map PyData.str), _, .tup (SqT.of (w3 _ _ eax)) (ShwAll.dp ?_ (shw_strs own)), .tup (SqT.of upd_same) .nil, ?_, by decide +kernel, _, rfl, ?_⟩
          · exact strs_lay oko
          · exact strs_shaped oko
          rw [eqv_tnil]
          cases own with
          | nil => exact iteF (iteF ⟨_, c2, z, i, rfl, G3, C3, by omega, Shw.same sd w3, base⟩)
          | cons o0 own' =>
            refine iteT ⟨.ref a, rfl, ?_⟩
            (first | refine (use_fish (t := 3) C3 (by omega) (by decide) (by decide) fun r c4 H4 r0 r1 C4 l4 g4 => ?_) | (show tNil _ _ _; unfold tNil; refine (use_fish (t := 3) C3 (by omega) (by decide) (by decide) fun r c4 H4 r0 r1 C4 l4 g4 => ?_)) | ((try unfold tCons); (try unfold tNil); (try unfold tC); refine (use_fish (t := 3) C3 (by omega) (by decide) (by decide) fun r c4 H4 r0 r1 C4 l4 g4 => ?_)))
            refine ⟨r, 0, rfl, rfl, _, rfl, ite2 (fun _ => ?_) (fun _ => ?_)⟩
            · obtain ⟨x4, e4, _⟩ := id C4
              have eax4 := C3.tup g4 (w3 _ _ eax)
              refine ⟨.ref a, rfl, .ref ax, rfl, a, ax, _, y, c4, rfl, C4, by omega, eax4, by rw [List.length_map]; exact Nat.succ_pos _, by rw [List.length_map]; omega, fun r5 v5 c5 H5 hv5 C5 l5 g5 => ⟨le_line (by simp), fun t3 nt3 => ?_⟩⟩
              have w5 := same_upd (p := t3) (o := .tup [v5, .int 0]) nt3
              obtain ⟨z5, hz5, rfl⟩ := List.mem_map.mp (List.mem_of_getElem? hv5)
              exact ⟨.ref t3, c5, z5, 0, rfl, ((G3.trans g4).trans g5).trans (Grw.of w5), C5.same w5, by omega, .tup upd_same (.cons (.str z5) (.cons (.int 0) .nil)), .inr ⟨hz5, rfl⟩⟩
            · exact ⟨_, c4, z, i, rfl, G3.trans g4, C4, by omega, Shw.grw C3 g4 rfl (Shw.same sd w3), base⟩
        · rintro σ' H' ⟨v, c', z, i, rfl, G', C', l', sv, hz⟩
          have D' := D.grw G' C'
          obtain ⟨v1, v2, v3, hl, y1, y2, y3⟩ := id D'.pt
          obtain ⟨b1, ys, rfl, eb1, lb1, at_⟩ := arr_get y1
          have lp : 0 < ps.length := List.length_pos_iff.mpr hne
          refine ⟨.ref a, rfl, .ref l, rfl, l, _, 0, .ref b1, rfl, rfl, SqL.of hl, rfl, a, b1, ys, y, c', rfl, C', by omega, eb1, by omega, by omega, fun r6 v6 c6 H6 hv6 C6 l6 g6 => ?_⟩
          obtain ⟨x', e', _⟩ := id C'
          obtain ⟨p, cp, hp, rfl, ec⟩ := at_ r6 v6 hv6
          refine ⟨cp, _, 0, .str p.1, rfl, rfl, SqT.of (g6 _ _ (tup_ne e' ec) ec), at0 _ _, le_line (by simp), fun t6 nt6 => ?_⟩
          have w6 := same_upd (p := t6) (o := .tup [.str p.1]) nt6
          refine ⟨v, rfl, cat_shw (.tup upd_same (.cons (.str p.1) .nil)) (Shw.same (Shw.grw C' g6 rfl sv) w6) (by rw [sizeLine_eq]; show 3 ≤ 16777216; decide) fun v7 H7 s7 sh7 => ?_⟩
          have w7 := w6.trans s7
          refine ⟨.ref a, rfl, 1, rfl, (le_line (by simp)), fun r8 n8 => ?_⟩
          have w8 := same_upd (p := r8) (o := .lst (([0, 0, 0, 1, -1] : List Int).map V.int)) n8
          have C8 := (C6.same w7).same w8
          refine use_oneI (is := [0, 0, 0, 1, -1]) C8 (by omega) upd_same ((C6.same w7).ne n8) (by decide) (by decide) fun j c9 H9 hj C9 l9 G9 => ?_
          refine ⟨le_line (by simp), fun t9 nt9 => ?_⟩
          have w9 := same_upd (p := t9) (o := .tup [.int j]) nt9
          refine cat_shw (Shw.same (Shw.grw C8 G9 (by rfl) (Shw.same sh7 w8)) w9) (.tup upd_same (.cons (.int j) .nil)) (by rw [sizeLine_eq]; show 4 ≤ 16777216; decide) fun v10 H10 s10 sh10 => ?_
          refine q v10 (.tuple [.str p.1, .str z, .int i, .int j]) c9 H10 (.inr ⟨p.1, z, i, j, rfl, List.mem_map.mpr ⟨p, List.mem_of_getElem? hp, rfl⟩, hz, hj⟩) sh10 ((C9.same w9).same s10) (by omega) ?_
          exact (((G'.trans g6).trans (Grw.of (w7.trans w8))).trans G9).trans (Grw.of (w9.trans s10))
end
end K03

set_option autoImplicit false
set_option maxRecDepth 100000
set_option maxHeartbeats 4000000
/-! own names drawn -/
namespace K03
open PySem PySem.Spec PyProof.Rows L2 KX
abbrev sOwn : Stmt := topS 57
abbrev nOwn : List Str := ["_law_creel_here", "_law_parts_here", "_law_names_here", "_law_name"]
theorem scOwn : FnScope nOwn ["_law_creel_here", "_law_parts_here"] (defScope sOwn) := ⟨rfl, rfl, rfl, by decide +kernel, rfl, by decide +kernel, by decide +kernel⟩
/-- right own names, of those that the law has -/
structure OwnW (ps : List (Str × Str)) (qs rs own : List Str) : Prop where
  l1 : 0 < own.length
  l2 : own.length ≤ 2
  nd : own.Nodup
  m : ∀ z ∈ own, z ∈ OW6
  nw : ∀ z ∈ own, z ∉ wordsOf ps qs rs
def spOwn : Sp := fun vs H Q _ => ∃ (a l : Addr) (y c : Int) (ps : List (Str × Str)) (qs rs : List Str), vs = [.ref a, .ref l] ∧ Dw H a l y c ps qs rs ∧ c ≤ 890000 ∧
  ∀ (v : V) (own : List Str) (c' : Int) (H' : Hp), OwnW ps qs rs own → Txts H' v own → CrAt H' a y c' → c' ≤ c + 4 → Grw a H H' → Q v H'
theorem words_W16 {ps : List (Str × Str)} {qs rs : List Str} (g : GoodP ps qs rs) : ∀ z ∈ wordsOf ps qs rs, z ∈ W16 := fun z hz => by
  unfold wordsOf at hz
  simp only [List.mem_append] at hz
  rcases hz with h | h | h | h
  · obtain ⟨p, hp, rfl⟩ := List.mem_map.mp h
    exact (g.m1 p hp).1
  · obtain ⟨p, hp, rfl⟩ := List.mem_map.mp (onceS_mem _ z h)
    exact (g.m1 p hp).2
  · exact g.m2 z h
  · exact g.m3 z h
def own6 (ws : List Str) : List Str := OW6.filter fun z => !decide (z ∈ ws)
theorem own6_len {ws : List Str} (h : ∀ z ∈ ws, z ∈ W16) : 2 ≤ (own6 ws).length := by
  have a : ([("own" : Str), "l"]).Sublist (own6 ws) := by
    have e : [("own" : Str), "l"] = ([("own" : Str), "l"]).filter fun z => !decide (z ∈ ws) := by
      refine (List.filter_eq_self.mpr fun z hz => ?_).symm
      have n : z ∉ W16 := by
        have hh : (([("own" : Str), "l"]).all fun z => !decide (z ∈ W16)) = true := by decide +kernel
        have := List.all_eq_true.mp hh z hz
        simpa using this
      rw [decide_eq_false fun k => n (h z k)]
      rfl
    rw [e]
    refine List.Sublist.filter _ ?_
    show ([("own" : Str), "l"]).Sublist ["k", "kk", "j", "own", "l", "q"]
    exact .cons _ (.cons _ (.cons _ (.cons₂ _ (.cons₂ _ (.cons _ .slnil)))))
  exact a.length_le
theorem own6_nd (ws : List Str) : (own6 ws).Nodup := List.Sublist.nodup List.filter_sublist (by decide +kernel)
section
variable {P : Program} {w : World} {K : PySem.W.Frag} {mg : Str → Option Value} {base : Heap}
theorem ok_own {f : Addr} {fd : FuncData} (F : Fun K "_law_own_drawn" "_law_own_drawn" sOwn f fd) (B : Free mg) (Fi : Fnc P w K mg base CX0 1 "_law_fish" ["_law_creel_here", "_law_total"] spFish) (Fe : Fnc P w K mg base CX0 2 "_law_few_of" ["_law_creel_here", "_law_items", "_law_count"] spFewM)
    (Al : Fnc P w K mg base CX0 2 "_law_all_of" ["_law_parts_here"] spAll) : FnOk P w K mg base CX0 3 f fd ["_law_creel_here", "_law_parts_here"] spOwn := by
  refine F.ok scOwn (fun vs H Q E h => ?_) (fun cdv A outer s H vs Q E hr h => ?_)
  · obtain ⟨a, l, y, c, ps, qs, rs, rfl, _⟩ := h
    rfl
  · obtain ⟨a, l, y, c, ps, qs, rs, rfl, D, hc, q⟩ := h
    refine ⟨_, pss_cons (ps_setLc (i := 2) (own := [("_law_name", 3)]) (g := gName 3) rfl scOwn.nd rfl rfl (sw_true rfl rfl rfl (by decide +kernel)) (pi_list (pe_lst (pa_cons pe_str (pa_cons pe_str (pa_cons pe_str (pa_cons pe_str (pa_cons pe_str (pa_cons pe_str pa_nil)))))))) (blkOk_by (N := nOwn) (sc := defScope sOwn) (by decide +kernel))
        (fun _ _ _ _ _ => pg_name (i := 3) scOwn.nd rfl (Or.inl rfl) (Or.inr rfl)) (fun _ _ _ _ _ => pts_one (pt_cmpR (r := rIn K true) op_notIn_seq (pv 3) (pe_fnc Al hr (by omega) (by rfl) pass0 (pa_cons (pv 1) pa_nil)) (by with_unfolding_all rfl))) (fun _ _ _ _ _ => pv 3))
      (pss_one (ps_ret (pe_callTy call_tuple_of (by rfl) B.tuple (by decide +kernel) (pa_cons (pe_fnc Fe hr (by omega) (by rfl) pass0 (pa_cons (pv 0) (pa_cons (pv 2) (pa_cons (pe_op op_add pe_int (pe_fnc Fi hr (by omega) (by rfl) pass0 (pa_cons (pv 0) (pa_cons pe_int pa_nil)))) pa_nil)))) pa_nil)))), ?_⟩
    refine ⟨(by rw [sizeLine_eq]; show 6 ≤ _; decide), fun t nt => ?_⟩
    have st := same_upd (p := t) (o := .lst (OW6.map V.str)) nt
    have ht : (upd H t (.lst (OW6.map V.str))) t = some (.lst (OW6.map V.str)) := upd_same
    have D1 := D.same st
    refine ⟨t, rfl, ⟨_, SqL.of ht⟩, fun L nL => ?_⟩
    have eH : (upd H t (.lst ([V.str "k", V.str "kk", V.str "j", V.str "own", V.str "l", V.str "q"]))) = upd H t (.lst (OW6.map V.str)) := rfl
    rw [eH] at nL ⊢
    generalize upd H t (.lst (OW6.map V.str)) = H1 at st ht D1 nL ⊢
    have La := D1.cr.ne nL
    have g1 := D.gp.l1
    have g2 := D.gp.l2
    have g3 := D.gp.l3
    have ln6 : (own6 (wordsOf ps qs rs)).length ≤ 6 := List.length_filter_le _ OW6
    refine lc_list (K := K) (a := t) (xs := OW6.map V.str) (fun m H' => Same H1 H' ∧ H' L = some (.lst (((OW6.take m).filter fun z => !decide (z ∈ wordsOf ps qs rs)).map V.str))) ⟨same_upd nL, by rw [List.take_zero]; exact upd_same⟩ (fun m H' _ hP => SqL.of (hP.1 _ _ ht)) (fun m x H' hm hP => ?_) (fun H' hP => ?_)
    · obtain ⟨s1, d1⟩ := hP
      rw [List.getElem?_map] at hm
      obtain ⟨z, hz, rfl⟩ := Option.map_eq_some_iff.mp hm
      obtain ⟨v1, v2, v3, hl, y1, y2, y3⟩ := (D1.same s1).pt
      have nx : (OW6.take (m + 1)).filter (fun z => !decide (z ∈ wordsOf ps qs rs)) = (OW6.take m).filter (fun z => !decide (z ∈ wordsOf ps qs rs)) ++ (if (!decide (z ∈ wordsOf ps qs rs)) = true then [z] else []) := by
        rw [List.take_add_one, hz, List.filter_append]
        congr 1
        show List.filter _ [z] = _
        rw [List.filter_cons]
        rfl
      refine ⟨rfl, .str z, rfl, .ref l, rfl, l, v1, v2, v3, ps, qs, rs, rfl, hl, y1, y2, y3, by omega, by omega, by omega, fun L1 H2 w2 e2 => ?_⟩
      refine ⟨L1, _, rfl, .inl (SqL.of e2), rfl, flat_strs _, _, rfl, ?_⟩
      rw [inV_strs]
      have d2 := w2 _ _ d1
      cases e : (!decide (z ∈ wordsOf ps qs rs)) with
      | true =>
        refine iteT ⟨_, rfl, _, d2, ?_, fun b o z => ?_, ?_⟩
        · have l2 : ((OW6.take m).filter fun z => !decide (z ∈ wordsOf ps qs rs)).length ≤ (OW6.take m).length := List.length_filter_le _ _
          rw [List.length_take] at l2
          rw [List.length_map, sizeLine_eq]
          have : OW6.length = 6 := rfl
          omega
        · rw [upd_ne (ne_of_none z nL)]
          exact w2 _ _ (s1 _ _ z)
        · rw [upd_same, nx, if_pos e, List.map_append]
          rfl
      | false =>
        refine iteF ⟨s1.trans w2, ?_⟩
        rw [nx, if_neg (by rw [e]; exact Bool.false_ne_true), List.append_nil]
        exact d2
    · obtain ⟨s1, d1⟩ := hP
      have d1 : H' L = some (.lst ((own6 (wordsOf ps qs rs)).map V.str)) := d1
      have D2 := D1.same s1
      have len := own6_len (words_W16 D.gp)
      refine ⟨.ref a, rfl, .ref L, rfl, .ref a, rfl, ?_⟩
      (first | refine (use_fish (t := 2) D2.cr (by omega) (by decide) (by decide) fun r c1 H2 r0 r1 C1 l1 G1 => ?_) | (show tNil _ _ _; unfold tNil; refine (use_fish (t := 2) D2.cr (by omega) (by decide) (by decide) fun r c1 H2 r0 r1 C1 l1 G1 => ?_)) | ((try unfold tCons); (try unfold tNil); (try unfold tC); refine (use_fish (t := 2) D2.cr (by omega) (by decide) (by decide) fun r c1 H2 r0 r1 C1 l1 G1 => ?_)))
      obtain ⟨x1, e1, CC⟩ := id C1
      refine ⟨1, r, rfl, rfl, a, L, x1, y, c1, own6 (wordsOf ps qs rs), (1 + r).toNat, ?_, La, e1, CC, by omega, G1 _ _ La d1, by omega, by omega, fun M fs ls x2 c2 H3 lf pm C2 l2 e2 G2 Ma hM => ?_⟩
      · have : (((1 + r).toNat : Nat) : Int) = 1 + r := Int.toNat_of_nonneg (by omega)
        rw [this]
        rfl
      · refine ⟨M, _, rfl, .inl ⟨SqL.of hM, fun T nT => ?_⟩⟩
        have sM := same_upd (p := T) (o := .tup (fs.map V.str)) nT
        have sub : ∀ z ∈ fs, z ∈ own6 (wordsOf ps qs rs) := fun z hz => pm.subset (List.mem_append_left _ hz)
        refine q _ fs c2 _ ⟨by omega, by omega, (List.nodup_append.mp (pm.nodup_iff.mpr (own6_nd _))).1, fun z hz => (List.mem_filter.mp (sub z hz)).1, fun z hz => ?_⟩ ⟨T, rfl, upd_same⟩ (CrAt.same ⟨x2, e2, C2⟩ sM) (by omega) ((((Grw.of st).trans (Grw.of s1)).trans G1).trans (G2.trans (Grw.of sM)))
        have := (List.mem_filter.mp (sub z hz)).2
        simpa using this
end
end K03

set_option autoImplicit false
set_option maxRecDepth 100000
set_option maxHeartbeats 4000000
/-! small data of the law; kinds of unlike words; places and worths are right -/
namespace K03
open PySem PySem.Spec PyProof.Rows L2 KX
section
variable {ps : List (Str × Str)} {qs rs own : List Str} {z : Str}
theorem kind_arr : inKs (kindW ps qs rs z) ["array"] = decide (z ∈ ps.map (·.1)) := by
  unfold kindW
  by_cases h : z ∈ ps.map (·.1)
  · rw [if_pos h, decide_eq_true h]; rfl
  · rw [if_neg h, decide_eq_false h]
    split
    · rfl
    split
    · rfl
    split <;> rfl
theorem kind_pos (nd : (wordsOf ps qs rs).Nodup) : inKs (kindW ps qs rs z) ["position", "length"] = decide (z ∈ lensOf ps ∨ z ∈ qs) := by
  obtain ⟨_, n2, x1⟩ := List.nodup_append.mp nd
  obtain ⟨_, n3, x2⟩ := List.nodup_append.mp n2
  obtain ⟨_, _, x3⟩ := List.nodup_append.mp n3
  unfold kindW
  by_cases h1 : z ∈ ps.map (·.1)
  · rw [if_pos h1, decide_eq_false]
    · rfl
    · rintro (h | h)
      · exact x1 z h1 z (List.mem_append_left _ h) rfl
      · exact x1 z h1 z (List.mem_append_right _ (List.mem_append_left _ h)) rfl
  · rw [if_neg h1]
    by_cases h2 : z ∈ lensOf ps
    · rw [if_pos h2, decide_eq_true (.inl h2)]; rfl
    · rw [if_neg h2]
      by_cases h3 : z ∈ qs
      · rw [if_pos h3, decide_eq_true (.inr h3)]; rfl
      · rw [if_neg h3, decide_eq_false (fun h => h.elim h2 h3)]
        split <;> rfl
theorem kind_val (nd : (wordsOf ps qs rs).Nodup) : inKs (kindW ps qs rs z) ["value"] = decide (z ∈ rs) := by
  obtain ⟨_, n2, x1⟩ := List.nodup_append.mp nd
  obtain ⟨_, n3, x2⟩ := List.nodup_append.mp n2
  obtain ⟨_, _, x3⟩ := List.nodup_append.mp n3
  unfold kindW
  by_cases h1 : z ∈ ps.map (·.1)
  · rw [if_pos h1, decide_eq_false]
    · rfl
    · exact fun h => x1 z h1 z (List.mem_append_right _ (List.mem_append_right _ h)) rfl
  · rw [if_neg h1]
    by_cases h2 : z ∈ lensOf ps
    · rw [if_pos h2, decide_eq_false]
      · rfl
      · exact fun h => x2 z h2 z (List.mem_append_right _ h) rfl
    · rw [if_neg h2]
      by_cases h3 : z ∈ qs
      · rw [if_pos h3, decide_eq_false]
        · rfl
        · exact fun h => x3 z h3 z h rfl
      · rw [if_neg h3]
        by_cases h4 : z ∈ rs
        · rw [if_pos h4, decide_eq_true h4]; rfl
        · rw [if_neg h4, decide_eq_false h4]; rfl
theorem pos_spots (nd : (wordsOf ps qs rs).Nodup) : posW ps qs rs own z = decide (z ∈ spotsW ps qs own) := by
  unfold posW
  rw [kind_pos nd, ← Bool.decide_or, ← Bool.decide_or]
  refine decide_eq_decide.mpr ?_
  unfold spotsW
  simp only [List.mem_append, List.mem_singleton, List.mem_cons, List.not_mem_nil, or_false]
  constructor
  · rintro (h | h | h | h)
    · exact .inl (.inl (.inl h))
    · exact .inr h
    · exact .inl (.inl (.inr h))
    · exact .inl (.inr h)
  · rintro (((h | h) | h) | h)
    · exact .inl h
    · exact .inr (.inr (.inl h))
    · exact .inr (.inr (.inr h))
    · exact .inr (.inl h)
theorem inPair_str (ws : List Str) (n : PyData) : inPair ws (.tuple [.str z, n]) = (isIg n && decide (z ∈ ws)) := by
  show (decide (z ∈ ws) && isIg n) = _
  rw [Bool.and_comm]
/-- the law's judge of value terms and the program's, where words are unlike -/
theorem amt_is (nd : (wordsOf ps qs rs).Nodup) (d : PyData) : amtL ps qs rs own d = (isVal ps qs rs own d && besideT own d) := by
  refine amt_val (fun z n => ?_) (fun w s => ?_) (fun a n => ?_) d
  · cases z with
    | str z =>
      rw [inPair_str]
      show _ = (isIg n && (decide (z = "") || inKs (kindW ps qs rs z) ["value"]))
      rw [kind_val nd, ← Bool.decide_or]
      congr 1
      exact decide_eq_decide.mpr (by simp)
    | _ => first | exact (Bool.and_false _).symm | (show false = (isIg n && false); rw [Bool.and_false])
  · cases w with
    | str z =>
      rw [inPair_str]
      show _ = (isIg s && posW ps qs rs own z)
      rw [pos_spots nd]
    | _ => rfl
  · cases a with
    | str z =>
      rw [inPair_str]
      show _ = (isIg n && inKs (kindW ps qs rs z) ["array"])
      rw [kind_arr]
    | _ => first | exact (Bool.and_false _).symm | (show false = (isIg n && false); rw [Bool.and_false])
end
/-! claims as data: texts of the law, small numbers, no tuple that begins with a number -/
def LC : List Str := ["pos", "val", "and", "or", "not", "all", "<=", "<", "==", ""]
def LQ : List Str := LC ++ (OW6 ++ W16)
mutual
def cq : PyData → Bool
  | .str z => decide (z ∈ LQ)
  | .int i => decide (-3 ≤ i) && decide (i ≤ 2)
  | .tuple ds => decide (ds.length ≤ 4) && (!headInt ds && cqAll ds)
  | _ => false
def cqAll : List PyData → Bool
  | [] => true
  | x :: xs => cq x && cqAll xs
end
mutual
/-- the number of nodes -/
def nn : PyData → Nat
  | .tuple ds | .list ds => 1 + nnAll ds
  | _ => 1
def nnAll : List PyData → Nat
  | [] => 0
  | x :: xs => nn x + nnAll xs
end
theorem LQ_ok : ∀ z ∈ LQ, z.length ≤ 9 ∧ (z.cps.toList.all fun c => decide (c < 0x110000)) = true ∧ PyData.strOk z = true ∧ (PyData.str z).shown.length ≤ 13 := by
  have h : (LQ.all fun z => decide (z.length ≤ 9) && ((z.cps.toList.all fun c => decide (c < 0x110000)) && (PyData.strOk z && decide ((PyData.str z).shown.length ≤ 13)))) = true := by decide +kernel
  intro z hz
  have := List.all_eq_true.mp h z hz
  simp only [Bool.and_eq_true, decide_eq_true_eq] at this
  exact this
theorem LQ_w {z : Str} (h : z ∈ W16) : z ∈ LQ := List.mem_append_right _ (List.mem_append_right _ h)
theorem LQ_o {z : Str} (h : z ∈ OW6) : z ∈ LQ := List.mem_append_right _ (List.mem_append_left _ h)
theorem LQ_c {z : Str} (h : z ∈ LC) : z ∈ LQ := List.mem_append_left _ h
mutual
theorem cq_gd : ∀ d : PyData, cq d = true → gd d = true ∧ offD d = true ∧ PyData.canLay0 d = true
  | .str z, h => by
    obtain ⟨h1, h2, h3, _⟩ := LQ_ok z (of_decide_eq_true h)
    refine ⟨?_, rfl, h3⟩
    simp only [gd, h2, Bool.and_true]
    exact decide_eq_true (by omega)
  | .int i, _ => ⟨rfl, rfl, rfl⟩
  | .tuple ds, h => by
    simp only [cq, Bool.and_eq_true, decide_eq_true_eq] at h
    obtain ⟨h1, h2, h3⟩ := h
    obtain ⟨a, b, c⟩ := cq_gdAll ds h3
    refine ⟨?_, ?_, ?_⟩
    · simp only [gd, a, Bool.and_true]
      exact decide_eq_true (by omega)
    · simp only [offD, b]
    · simp only [PyData.canLay0, c]
  | .none, h => nomatch h
  | .bool _, h => nomatch h
  | .list _, h => nomatch h
  | .dict _, h => nomatch h
theorem cq_gdAll : ∀ ds : List PyData, cqAll ds = true → gdAll ds = true ∧ offAll ds = true ∧ PyData.canLayAll0 ds = true
  | [], _ => ⟨rfl, rfl, rfl⟩
  | d :: ds, h => by
    simp only [cqAll, Bool.and_eq_true] at h
    obtain ⟨a1, b1, c1⟩ := cq_gd d h.1
    obtain ⟨a2, b2, c2⟩ := cq_gdAll ds h.2
    simp only [gdAll, offAll, PyData.canLayAll0, a1, a2, b1, b2, c1, c2, Bool.and_self, and_self]
end
/-- right, and small: depth and number of nodes -/
structure Sm (D M : Nat) (d : PyData) : Prop where
  c : cq d = true
  p : PyData.depth d ≤ D
  w : nn d ≤ M
theorem Sm.up {D M D' M' : Nat} {d : PyData} (h : Sm D M d) (h1 : D ≤ D') (h2 : M ≤ M') : Sm D' M' d := ⟨h.c, Nat.le_trans h.p h1, Nat.le_trans h.w h2⟩
theorem sm_all {D M : Nat} : ∀ {ds : List PyData}, (∀ d ∈ ds, Sm D M d) → cqAll ds = true ∧ PyData.depthAll ds ≤ D ∧ nnAll ds ≤ ds.length * M
  | [], _ => ⟨rfl, Nat.zero_le _, Nat.zero_le _⟩
  | d :: ds, h => by
    obtain ⟨a, b, c⟩ := sm_all fun y hy => h y (List.mem_cons_of_mem _ hy)
    have h1 := h d List.mem_cons_self
    refine ⟨?_, ?_, ?_⟩
    · simp only [cqAll, h1.c, a, Bool.and_self]
    · have := h1.p
      simp only [PyData.depthAll]
      omega
    · have := h1.w
      simp only [nnAll, List.length_cons, Nat.succ_mul]
      omega
/-- a tuple of small data -/
theorem sm_tup {D M N : Nat} {ds : List PyData} (l : ds.length ≤ 4) (hd : headInt ds = false) (h : ∀ d ∈ ds, Sm D M d) (hN : 1 + ds.length * M ≤ N) : Sm (D + 1) N (.tuple ds) := by
  obtain ⟨a, b, c⟩ := sm_all h
  refine ⟨?_, ?_, ?_⟩
  · simp only [cq, hd, a, decide_eq_true l, Bool.not_false, Bool.and_self]
  · rw [depth_tup]
    omega
  · simp only [nn]
    omega
theorem sm_str {z : Str} (h : z ∈ LQ) : Sm 0 1 (.str z) := ⟨decide_eq_true h, Nat.le_refl _, Nat.le_refl _⟩
theorem sm_int {i : Int} (h1 : -3 ≤ i) (h2 : i ≤ 2) : Sm 0 1 (.int i) := ⟨by simp only [cq, decide_eq_true h1, decide_eq_true h2, Bool.and_self], Nat.le_refl _, Nat.le_refl _⟩
theorem ig_small {i : Int} (h1 : -3 ≤ i) (h2 : i ≤ 2) : isIg (.int i) = true := by
  show (decide (-lim < i) && decide (i < lim)) = true
  rw [decide_eq_true (by unfold lim; omega), decide_eq_true (by unfold lim; omega)]
  rfl
theorem six {i : Int} (h : i ∈ ([0, 0, 1, -1, 2, -3] : List Int)) : -3 ≤ i ∧ i ≤ 2 := by
  simp only [List.mem_cons, List.not_mem_nil, or_false] at h
  omega
section
variable {ps : List (Str × Str)} {qs rs own : List Str} {d : PyData}
theorem GoodP.lens (g : GoodP ps qs rs) : ∀ z ∈ lensOf ps, z ∈ W16 := fun z hz => by
  obtain ⟨p, hp, rfl⟩ := List.mem_map.mp (onceS_mem _ z hz)
  exact (g.m1 p hp).2
theorem pair_sm {z : Str} {i : Int} (hz : z ∈ LQ) (h1 : -3 ≤ i) (h2 : i ≤ 2) : Sm 1 3 (.tuple [.str z, .int i]) := by
  refine sm_tup (M := 1) (by show 2 ≤ 4; decide) rfl (fun d hd => ?_) (by show 1 + 2 * 1 ≤ 3; decide)
  simp only [List.mem_cons, List.not_mem_nil, or_false] at hd
  rcases hd with rfl | rfl
  · exact sm_str hz
  · exact sm_int h1 h2
theorem plc_ok (g : GoodP ps qs rs) (ho : ∀ z ∈ own, z ∈ OW6) (h : plcW ps qs own d) : isPos ps qs rs own d = true ∧ Sm 1 3 d := by
  obtain ⟨z, i, rfl, hz, hi⟩ := h
  obtain ⟨i1, i2⟩ := six hi
  refine ⟨?_, pair_sm ?_ i1 i2⟩
  · show (isIg (.int i) && posW ps qs rs own z) = true
    rw [ig_small i1 i2, pos_spots g.nd, Bool.true_and]
    refine decide_eq_true ?_
    unfold spotsW
    simp only [List.mem_append, List.mem_singleton, List.mem_cons, List.not_mem_nil, or_false]
    rcases hz with h | h | h | h
    · exact .inl (.inl (.inl h))
    · exact .inl (.inl (.inr h))
    · exact .inl (.inr h)
    · exact .inr h
  · rcases hz with h | h | h | h
    · exact LQ_c (by rw [h]; decide)
    · exact LQ_w (g.lens z h)
    · exact LQ_w (g.m2 z h)
    · exact LQ_o (ho z h)
theorem wth_ok (g : GoodP ps qs rs) (ho : ∀ z ∈ own, z ∈ OW6) (hw : ∀ z ∈ own, z ∉ wordsOf ps qs rs) (h : wthW ps qs rs own d) : (isVal ps qs rs own d && besideT own d) = true ∧ Sm 1 5 d := by
  rcases h with ⟨z, i, rfl, hz, hi⟩ | ⟨n, z, i, j, rfl, hn, hz, hj⟩
  · have i1 : -3 ≤ i ∧ i ≤ 2 := by
      simp only [List.mem_cons, List.not_mem_nil, or_false] at hi
      omega
    refine ⟨?_, (pair_sm ?_ i1.1 i1.2).up (Nat.le_refl _) (by decide)⟩
    · rw [← amt_is g.nd]
      show inPair ("" :: rs) (.tuple [.str z, .int i]) = true
      rw [inPair_str, ig_small i1.1 i1.2, Bool.true_and]
      exact decide_eq_true (by simpa using hz)
    · rcases hz with h | h
      · exact LQ_c (by rw [h]; decide)
      · exact LQ_w (g.m3 z h)
  · have j1 : -3 ≤ j ∧ j ≤ 2 := by
      simp only [List.mem_cons, List.not_mem_nil, or_false] at hj
      omega
    have i1 : -3 ≤ i ∧ i ≤ 2 := by
      rcases hz with ⟨_, h⟩ | ⟨_, rfl⟩
      · exact six h
      · decide
    have hzs : z = "" ∨ z ∈ lensOf ps ∨ z ∈ qs ∨ z ∈ own := by
      rcases hz with ⟨h | h | h, _⟩ | ⟨h, _⟩
      · exact .inl h
      · exact .inr (.inl h)
      · exact .inr (.inr (.inl h))
      · exact .inr (.inr (.inr h))
    have hn16 : n ∈ W16 := by
      obtain ⟨p, hp, rfl⟩ := List.mem_map.mp hn
      exact (g.m1 p hp).1
    refine ⟨?_, ?_⟩
    · rw [← amt_is g.nd]
      show (inPair (spotsW ps qs own) (.tuple [.str z, .int i]) && (inPair (ps.map (·.1)) (.tuple [.str n, .int j]) && (!decide (z ∈ own) || decide (i = 0)))) = true
      rw [inPair_str, inPair_str, ig_small i1.1 i1.2, ig_small j1.1 j1.2, decide_eq_true hn]
      have e1 : decide (z ∈ spotsW ps qs own) = true := by
        refine decide_eq_true ?_
        unfold spotsW
        simp only [List.mem_append, List.mem_singleton, List.mem_cons, List.not_mem_nil, or_false]
        rcases hzs with h | h | h | h
        · exact .inl (.inl (.inl h))
        · exact .inl (.inl (.inr h))
        · exact .inl (.inr h)
        · exact .inr h
      rw [e1]
      have e2 : (!decide (z ∈ own) || decide (i = 0)) = true := by
        rcases hz with ⟨h, _⟩ | ⟨_, rfl⟩
        · have : z ∉ own := fun k => by
            rcases h with h | h | h
            · subst h
              exact absurd (ho _ k) (by decide +kernel)
            · exact hw z k (List.mem_append_right _ (List.mem_append_left _ h))
            · exact hw z k (List.mem_append_right _ (List.mem_append_right _ (List.mem_append_left _ h)))
          rw [decide_eq_false this]
          rfl
        · rw [decide_eq_true (rfl : (0 : Int) = 0), Bool.or_true]
      rw [e2]
      rfl
    · refine sm_tup (D := 0) (M := 1) (by show 4 ≤ 4; decide) rfl (fun d hd => ?_) (by show 1 + 4 * 1 ≤ 5; decide)
      simp only [List.mem_cons, List.not_mem_nil, or_false] at hd
      rcases hd with rfl | rfl | rfl | rfl
      · exact sm_str (LQ_w hn16)
      · refine sm_str ?_
        rcases hzs with h | h | h | h
        · exact LQ_c (by rw [h]; decide)
        · exact LQ_w (g.lens z h)
        · exact LQ_w (g.m2 z h)
        · exact LQ_o (ho z h)
      · exact sm_int i1.1 i1.2
      · exact sm_int j1.1 j1.2
end
end K03

set_option autoImplicit false
set_option maxRecDepth 100000
set_option maxHeartbeats 4000000
/-! guards drawn -/
namespace K03
open PySem PySem.Spec PyProof.Rows L2 KX
theorem pss_imp {X : Cx} {st : List Stmt} {t u : TS} (h : PSs X st t) (i : ∀ D σ H, u D σ H → t D σ H) : PSs X st u := ⟨fun pins s σ H D I q => h.run pins s σ H D I (i _ _ _ q)⟩
abbrev sGu : Stmt := topS 58
abbrev nGu : List Str := ["_law_creel_here", "_law_parts_here", "_law_own", "_law_deep", "_law_some", "_law_mine", "_law_other", "_law_pair", "_law_turn"]
theorem scGu : FnScope nGu ["_law_creel_here", "_law_parts_here", "_law_own", "_law_deep"] (defScope sGu) := ⟨rfl, rfl, rfl, by decide +kernel, rfl, by decide +kernel, by decide +kernel⟩
theorem at_last {own : List Str} (h0 : 0 < own.length) (h2 : own.length ≤ 2) : ∃ z, z ∈ own ∧ atI (own.map V.str) (-1) = some (.str z) := by
  match own, h0, h2 with
  | [a], _, _ => exact ⟨a, by simp, by unfold atI ixN; simp⟩
  | [a, b], _, _ => exact ⟨b, by simp, by unfold atI ixN; simp⟩
/-- a term of a guard -/
structure Oth (ps : List (Str × Str)) (qs rs own : List Str) (d : PyData) : Prop where
  pos : isPos ps qs rs own d = true
  sm : Sm 1 3 d
  z : mineT own d = true → zeroT d = true
section
variable {ps : List (Str × Str)} {qs rs own : List Str} {d : PyData}
theorem pos_mono (nd : (wordsOf ps qs rs).Nodup) (h : isPos ps qs rs [] d = true) : isPos ps qs rs own d = true := by
  match d, h with
  | .tuple [.str z, n], h =>
    have h : (isIg n && posW ps qs rs [] z) = true := h
    show (isIg n && posW ps qs rs own z) = true
    rw [Bool.and_eq_true] at h ⊢
    refine ⟨h.1, ?_⟩
    have h2 := h.2
    rw [pos_spots nd] at h2 ⊢
    refine decide_eq_true ?_
    have := of_decide_eq_true h2
    unfold spotsW at this ⊢
    rw [List.append_nil] at this
    exact List.mem_append_left _ this
theorem OwnW.ne (o : OwnW ps qs rs own) {z : Str} (h : z = "" ∨ z ∈ lensOf ps ∨ z ∈ qs) : z ∉ own := fun k => by
  rcases h with h | h | h
  · subst h
    exact absurd (o.m _ k) (by decide +kernel)
  · exact o.nw z k (List.mem_append_right _ (List.mem_append_left _ h))
  · exact o.nw z k (List.mem_append_right _ (List.mem_append_right _ (List.mem_append_left _ h)))
theorem oth_plc (g : GoodP ps qs rs) (o : OwnW ps qs rs own) (h : plcW ps qs [] d) : Oth ps qs rs own d := by
  obtain ⟨h1, h2⟩ := plc_ok g (fun z hz => by cases hz) h
  refine ⟨pos_mono g.nd h1, h2, fun m => ?_⟩
  obtain ⟨z, i, rfl, hz, _⟩ := h
  have : z ∈ own := of_decide_eq_true m
  refine absurd this (o.ne ?_)
  rcases hz with h | h | h | h
  · exact .inl h
  · exact .inr (.inl h)
  · exact .inr (.inr h)
  · cases h
theorem oth_own (g : GoodP ps qs rs) (o : OwnW ps qs rs own) {z : Str} (h : z ∈ own) : Oth ps qs rs own (.tuple [.str z, .int 0]) ∧ mineT own (.tuple [.str z, .int 0]) = true := by
  refine ⟨⟨?_, pair_sm (LQ_o (o.m z h)) (by decide) (by decide), fun _ => rfl⟩, decide_eq_true h⟩
  show (isIg (.int 0) && posW ps qs rs own z) = true
  rw [ig_small (by decide) (by decide), pos_spots g.nd, Bool.true_and]
  exact decide_eq_true (List.mem_append_right _ h)
theorem guard_pos {m : Nat} {z : Str} {d1 d2 : PyData} (hz : z ∈ (["<=", "<=", "=="] : List Str)) (o1 : Oth ps qs rs own d1) (o2 : Oth ps qs rs own d2) (h : mineT own d1 = true ∨ mineT own d2 = true) :
    jf ps qs rs (m + 1) .guard own (.tuple [.str "pos", .str z, d1, d2]) = true ∧ Sm 2 9 (.tuple [.str "pos", .str z, d1, d2]) := by
  have hz2 : z = "<=" ∨ z = "==" := by
    simp only [List.mem_cons, List.not_mem_nil, or_false] at hz
    rcases hz with h | h | h
    · exact .inl h
    · exact .inl h
    · exact .inr h
  have a : isOp (.str z) = true ∧ strict (.str z) = false ∧ z ∈ LQ := by
    rcases hz2 with rfl | rfl
    · exact ⟨by decide +kernel, by decide +kernel, by decide +kernel⟩
    · exact ⟨by decide +kernel, by decide +kernel, by decide +kernel⟩
  refine ⟨?_, ?_⟩
  · rw [jf_gpos]
    show ((isOp (.str z) && (isPos ps qs rs own d1 && isPos ps qs rs own d2)) && (!strict (.str z) && ((mineT own d1 || mineT own d2) && ((!mineT own d1 || zeroT d1) && (!mineT own d2 || zeroT d2))))) = true
    have e1 : (!mineT own d1 || zeroT d1) = true := by
      cases e : mineT own d1 with
      | false => rfl
      | true => rw [o1.z e]; rfl
    have e2 : (!mineT own d2 || zeroT d2) = true := by
      cases e : mineT own d2 with
      | false => rfl
      | true => rw [o2.z e]; rfl
    have e3 : (mineT own d1 || mineT own d2) = true := by
      rcases h with h | h
      · rw [h]; rfl
      · rw [h, Bool.or_true]
    rw [a.1, a.2.1, o1.pos, o2.pos, e1, e2, e3]
    rfl
  · have n1 := o1.sm.w
    have n2 := o2.sm.w
    have c1 := o1.sm.c
    have c2 := o2.sm.c
    have p1 := o1.sm.p
    have p2 := o2.sm.p
    refine ⟨?_, ?_, ?_⟩
    · have e1 : cq (.str "pos") = true := by decide +kernel
      have e2 : cq (.str z) = true := decide_eq_true a.2.2
      simp only [cq, cqAll, c1, c2, decide_eq_true a.2.2, headInt, Bool.and_true, Bool.not_false, List.length_cons, List.length_nil]
      rw [decide_eq_true (show ("pos" : Str) ∈ LQ from LQ_c (by decide))]
      rfl
    · simp only [PyData.depth, PyData.depthAll]
      omega
    · simp only [nn, nnAll]
      omega
end
def guR : TS := fun Dn σ H => ∃ (a l : Addr) (y c n : Int) (ps : List (Str × Str)) (qs rs own : List Str) (x : V), σ = [some (.ref a), some (.ref l), some x, some (.int n), none, none, none, none, none] ∧ Dw H a l y c ps qs rs ∧ c ≤ 980000 ∧ Txts H x own ∧ OwnW ps qs rs own ∧
  Drw a y c 6 (fun d => ∀ m, jf ps qs rs (m + 1) .guard own d = true ∧ Sm 2 9 d) H Dn.rt
section
variable {P : Program} {w : World} {K : PySem.W.Frag} {mg : Str → Option Value} {base : Heap}
theorem gu_tail {f : Addr} {cdv : Value} {A : Around} {outer : List Env} {s : Shared} {H0 : Hp} {E : XK} {k : Nat} (hr : Room k (A.deeper (envOfC "_law_guard" (defScope sGu) s.heap.objs.size f cdv))) (hk : 3 ≤ k)
    (Fi : Fnc P w K mg base CX0 1 "_law_fish" ["_law_creel_here", "_law_total"] spFish) (On : Fnc P w K mg base CX0 2 "_law_one_of" ["_law_creel_here", "_law_items"] spOne) (OT : Fnc P w K mg base CX0 2 "_law_one_of" ["_law_creel_here", "_law_items"] spOneT)
    (Pl : Fnc P w K mg base CX0 3 "_law_place" ["_law_creel_here", "_law_parts_here", "_law_own"] spPlc) :
    PSs (cxOf CX0 P w K mg base nGu "_law_guard" (defScope sGu) f cdv A outer s H0 E).nox ((defBody sGu).drop 1) guR := by
  refine pss_imp (pss_cons (ps_par (i := 5) (j := 6) rfl scGu.nd rfl rfl (by decide) rfl rfl (pa_cons (pe_tup (pa_cons (pe_fnc OT hr (by omega) (by rfl) pass0 (pa_cons (pv 0) (pa_cons (pv 2) pa_nil))) (pa_cons pe_int pa_nil)))
        (pa_cons (pe_fnc Pl hr (by omega) (by rfl) pass0 (pa_cons (pv 0) (pa_cons (pv 1) (pa_cons (pe_tup pa_nil) pa_nil)))) pa_nil)) (by rfl))
    (C8.pss_cut (ps_set (i := 6) scGu.nd rfl (.inl rfl) (pe_ifExp (pt_cmpR op_eq (pe_fnc Fi hr (by omega) (by rfl) pass0 (pa_cons (pv 0) (pa_cons pe_int pa_nil))) pe_int (nomark _))
        (pe_tup (pa_cons (pe_ix ix_tup (pv 2) (pe_un un_neg pe_int) (fun _ _ => rfl)) (pa_cons pe_int pa_nil))) (pv 6)))
    (C8.pss_cut (ps_set (i := 7) scGu.nd rfl (.inl rfl) (pe_ifExp (pt_cmpR op_eq (pe_fnc Fi hr (by omega) (by rfl) pass0 (pa_cons (pv 0) (pa_cons pe_int pa_nil))) pe_int (nomark _))
        (pe_tup (pa_cons (pv 5) (pa_cons (pv 6) pa_nil))) (pe_tup (pa_cons (pv 6) (pa_cons (pv 5) pa_nil)))))
    (pss_one (ps_ret (pe_op op_catA (pe_tup (pa_cons pe_str (pa_cons (pe_fnc On hr (by omega) (by rfl) pass0 (pa_cons (pv 0) (pa_cons (pe_lst (pa_cons pe_str (pa_cons pe_str (pa_cons pe_str pa_nil)))) pa_nil))) pa_nil))) (pv 7))))))) ?_
  rintro Dn σ H ⟨a, l, y, c, n, ps, qs, rs, own, x, rfl, D, hc, yo, ow, q⟩
  obtain ⟨ax, rfl, eax⟩ := id yo
  have o1 := ow.l1
  have o2 := ow.l2
  refine ⟨.ref a, rfl, .ref ax, rfl, ?_⟩
  (first | refine (⟨a, ax, _, y, c, rfl, D.cr, by omega, eax, by rw [List.length_map]; exact o1, by rw [List.length_map]; omega, fun r v c1 H1 hv C1 l1 g1 => ?_⟩) | (show tNil _ _ _; unfold tNil; refine (⟨a, ax, _, y, c, rfl, D.cr, by omega, eax, by rw [List.length_map]; exact o1, by rw [List.length_map]; omega, fun r v c1 H1 hv C1 l1 g1 => ?_⟩)) | ((try unfold tCons); (try unfold tNil); (try unfold tC); refine (⟨a, ax, _, y, c, rfl, D.cr, by omega, eax, by rw [List.length_map]; exact o1, by rw [List.length_map]; omega, fun r v c1 H1 hv C1 l1 g1 => ?_⟩)))
  refine ⟨le_line (by simp), fun t nt => ?_⟩
  obtain ⟨z, hz, rfl⟩ := List.mem_map.mp (List.mem_of_getElem? hv)
  have w1 := same_upd (p := t) (o := .tup [.str z, .int 0]) nt
  have sm1 : Shw (upd H1 t (.tup [.str z, .int 0])) (.ref t) (.tuple [.str z, .int 0]) := .tup upd_same (.cons (.str z) (.cons (.int 0) .nil))
  have D1 := (D.grw g1 C1).same w1
  generalize upd H1 t _ = H2 at w1 sm1 D1 ⊢
  refine ⟨.ref a, rfl, .ref l, rfl, le_line (by simp), fun t2 nt2 => ?_⟩
  have w2 := same_upd (p := t2) (o := .tup []) nt2
  (first | refine (⟨a, l, y, c1, ps, qs, rs, [], .ref t2, rfl, D1.same w2, by omega, ⟨t2, rfl, upd_same⟩, by decide, fun v2 d2 c3 H3 hd2 sd2 C3 l3 g3 => ?_⟩) | (show tNil _ _ _; unfold tNil; refine (⟨a, l, y, c1, ps, qs, rs, [], .ref t2, rfl, D1.same w2, by omega, ⟨t2, rfl, upd_same⟩, by decide, fun v2 d2 c3 H3 hd2 sd2 C3 l3 g3 => ?_⟩)) | ((try unfold tCons); (try unfold tNil); (try unfold tC); refine (⟨a, l, y, c1, ps, qs, rs, [], .ref t2, rfl, D1.same w2, by omega, ⟨t2, rfl, upd_same⟩, by decide, fun v2 d2 c3 H3 hd2 sd2 C3 l3 g3 => ?_⟩)))
  have G3 := (g1.trans (Grw.of (w1.trans w2))).trans g3
  have sm3 := Shw.grw (D1.same w2).cr g3 rfl (Shw.same sm1 w2)
  refine ⟨_, _, rfl, ?_⟩
  have oz := oth_own D.gp ow hz
  refine ⟨fun σ' H' => ∃ (v : V) (d : PyData) (c' : Int), σ' = [some (.ref a), some (.ref l), some (.ref ax), some (.int n), none, some (.ref t), some v, none, none] ∧ Grw a H H' ∧ CrAt H' a y c' ∧ c' ≤ c + 4 ∧ Shw H' (.ref t) (.tuple [.str z, .int 0]) ∧ Shw H' v d ∧ Oth ps qs rs own d, ?_, ?_⟩
  · have od := oth_plc D.gp ow hd2
    refine ⟨.ref a, rfl, ?_⟩
    (first | refine (use_fish (t := 4) C3 (by omega) (by decide) (by decide) fun r c4 H4 r0 r1 C4 l4 g4 => ?_) | (show tNil _ _ _; unfold tNil; refine (use_fish (t := 4) C3 (by omega) (by decide) (by decide) fun r c4 H4 r0 r1 C4 l4 g4 => ?_)) | ((try unfold tCons); (try unfold tNil); (try unfold tC); refine (use_fish (t := 4) C3 (by omega) (by decide) (by decide) fun r c4 H4 r0 r1 C4 l4 g4 => ?_)))
    have sd4 := Shw.grw C3 g4 (cq_gd _ od.sm.c).2.1 sd2
    have sm4 := Shw.grw C3 g4 rfl sm3
    have G4 := G3.trans g4
    refine ⟨rfl, _, rfl, ite2 (fun _ => ?_) (fun _ => ?_)⟩
    · obtain ⟨z', hz', el⟩ := at_last o1 o2
      refine ⟨.ref ax, rfl, 1, rfl, ax, own.map V.str, -1, .str z', rfl, rfl, SqT.of (D.cr.tup G4 eax), el, le_line (by simp), fun t5 nt5 => ?_⟩
      have w5 := same_upd (p := t5) (o := .tup [.str z', .int 0]) nt5
      exact ⟨.ref t5, .tuple [.str z', .int 0], c4, rfl, G4.trans (Grw.of w5), C4.same w5, by omega, Shw.same sm4 w5, .tup upd_same (.cons (.str z') (.cons (.int 0) .nil)), (oth_own D.gp ow hz').1⟩
    · exact ⟨v2, rfl, v2, d2, c4, rfl, G4, C4, by omega, sm4, sd4, od⟩
  · rintro σ' H' ⟨v, d, c', rfl, G', C', l', sm', sd', od⟩
    refine ⟨fun σ' H' => ∃ (v : V) (d1 d2 : PyData) (c' : Int) (x1 x2 : Option V), σ' = [some (.ref a), some (.ref l), some (.ref ax), some (.int n), none, x1, x2, some v, none] ∧ Grw a H H' ∧ CrAt H' a y c' ∧ c' ≤ c + 5 ∧ Shw H' v (.tuple [d1, d2]) ∧ Oth ps qs rs own d1 ∧ Oth ps qs rs own d2 ∧ (mineT own d1 = true ∨ mineT own d2 = true), ?_, ?_⟩
    · refine ⟨.ref a, rfl, ?_⟩
      (first | refine (use_fish (t := 2) C' (by omega) (by decide) (by decide) fun r c4 H4 r0 r1 C4 l4 g4 => ?_) | (show tNil _ _ _; unfold tNil; refine (use_fish (t := 2) C' (by omega) (by decide) (by decide) fun r c4 H4 r0 r1 C4 l4 g4 => ?_)) | ((try unfold tCons); (try unfold tNil); (try unfold tC); refine (use_fish (t := 2) C' (by omega) (by decide) (by decide) fun r c4 H4 r0 r1 C4 l4 g4 => ?_)))
      have sd4 := Shw.grw C' g4 (cq_gd _ od.sm.c).2.1 sd'
      have sm4 := Shw.grw C' g4 rfl sm'
      have G4 := G'.trans g4
      refine ⟨rfl, _, rfl, ite2 (fun _ => ?_) (fun _ => ?_)⟩
      · refine ⟨.ref t, rfl, v, rfl, le_line (by simp), fun t5 nt5 => ?_⟩
        have w5 := same_upd (p := t5) (o := .tup [.ref t, v]) nt5
        exact ⟨.ref t5, _, d, c4, _, _, rfl, G4.trans (Grw.of w5), C4.same w5, by omega, .tup upd_same (.cons (Shw.same sm4 w5) (.cons (Shw.same sd4 w5) .nil)), oz.1, od, .inl oz.2⟩
      · refine ⟨v, rfl, .ref t, rfl, le_line (by simp), fun t5 nt5 => ?_⟩
        have w5 := same_upd (p := t5) (o := .tup [v, .ref t]) nt5
        exact ⟨.ref t5, d, _, c4, _, _, rfl, G4.trans (Grw.of w5), C4.same w5, by omega, .tup upd_same (.cons (Shw.same sd4 w5) (.cons (Shw.same sm4 w5) .nil)), od, oz.1, .inr oz.2⟩
    · rintro σ' H' ⟨v, d1, d2, c', x1, x2, rfl, G', C', l', sv, od1, od2, hm⟩
      refine ⟨.ref a, rfl, le_line (by simp), fun r nr => ?_⟩
      have w1 := same_upd (p := r) (o := .lst ((["<=", "<=", "=="] : List Str).map V.str)) nr
      (first | refine (use_oneS (zs := ["<=", "<=", "=="]) (C'.same w1) (by omega) upd_same (C'.ne nr) (by decide) (by decide) fun z c2 H2 hz C2 l2 g2 => ?_) | (show tNil _ _ _; unfold tNil; refine (use_oneS (zs := ["<=", "<=", "=="]) (C'.same w1) (by omega) upd_same (C'.ne nr) (by decide) (by decide) fun z c2 H2 hz C2 l2 g2 => ?_)) | ((try unfold tCons); (try unfold tNil); (try unfold tC); refine (use_oneS (zs := ["<=", "<=", "=="]) (C'.same w1) (by omega) upd_same (C'.ne nr) (by decide) (by decide) fun z c2 H2 hz C2 l2 g2 => ?_)))
      refine ⟨le_line (by simp), fun t nt => ?_⟩
      have w2 := same_upd (p := t) (o := .tup [.str "pos", .str z]) nt
      have of : offD (.tuple [d1, d2]) = true := by
        simp only [offD, offAll, (cq_gd _ od1.sm.c).2.1, (cq_gd _ od2.sm.c).2.1, Bool.and_self]
      refine ⟨v, rfl, cat_shw (.tup upd_same (.cons (.str _) (.cons (.str z) .nil))) (Shw.same (Shw.grw (C'.same w1) g2 of (Shw.same sv w1)) w2) (le_line (by simp)) fun v3 H3 w3 s3 => ?_⟩
      exact q v3 _ c2 H3 (fun m => guard_pos hz od1 od2 hm) s3 ((C2.same w2).same w3) (by omega) (((G'.trans (Grw.of w1)).trans g2).trans (Grw.of (w2.trans w3)))
end
end K03

set_option autoImplicit false
set_option maxRecDepth 100000
set_option maxHeartbeats 4000000
/-! guards drawn: the def, by depth -/
namespace K03
open PySem PySem.Spec PyProof.Rows L2 KX
def Tup (H H' : Hp) : Prop := ∀ b ys, H b = some (.tup ys) → H' b = some (.tup ys)
mutual
theorem Shw.tupd {H H' : Hp} (g : Tup H H') : ∀ {v : V} {d : PyData}, cq d = true → Shw H v d → Shw H' v d
  | _, _, _, .str x => .str x
  | _, _, _, .int i => .int i
  | _, _, o, .tup h s => by
    simp only [cq, Bool.and_eq_true] at o
    exact .tup (g _ _ h) (ShwAll.tupd g o.2.2 s)
  | _, _, o, .non => nomatch o
  | _, _, o, .bl _ => nomatch o
  | _, _, o, .lst _ _ => nomatch o
  | _, _, o, .dct _ => nomatch o
theorem ShwAll.tupd {H H' : Hp} (g : Tup H H') : ∀ {vs : List V} {ds : List PyData}, cqAll ds = true → ShwAll H vs ds → ShwAll H' vs ds
  | _, _, _, .nil => .nil
  | _, _, o, .cons s1 s2 => by
    simp only [cqAll, Bool.and_eq_true] at o
    exact .cons (Shw.tupd g o.1 s1) (ShwAll.tupd g o.2 s2)
end
theorem cqAll_of : ∀ {ds : List PyData}, (∀ d ∈ ds, cq d = true) → cqAll ds = true
  | [], _ => rfl
  | d :: ds, h => by simp only [cqAll, h d List.mem_cons_self, cqAll_of fun y hy => h y (List.mem_cons_of_mem _ hy), Bool.and_self]
/-- a comprehension that draws -/
theorem lc_drw {a L : Addr} {y c : Int} {k cnt : Nat} {W : PyData → Prop} {g : TG} {te : TE} {vs : List Nat} {σ : L2.St} {Hb : Hp} {Qd : Hp → Prop} (hW : ∀ d, W d → cq d = true) (C : CrAt Hb a y c) (nL : Hb L = none) (few : cnt ≤ 100)
    (step : ∀ (m : Nat) (H' : Hp) (c' : Int), m < cnt → Grw a Hb H' → CrAt H' a y c' → c' ≤ c + (m * k : Nat) → ∀ Q' : VK, Drw a y c' k W H' Q' → g (.int (0 + m)) (wipe σ vs) H' fun σ2 H2 => wipe σ2 vs = wipe σ vs ∧ te σ2 H2 Q')
    (fin : ∀ (xs : List V) (ds : List PyData) (c' : Int) (H' : Hp), Grw a Hb H' → CrAt H' a y c' → c' ≤ c + (cnt * k : Nat) → H' L = some (.lst xs) → ShwAll H' xs ds → ds.length = cnt → (∀ d ∈ ds, W d) → Qd H') :
    ∃ Wf : Nat → Nat → Hp → Prop, (∃ m, Wf 0 m (upd Hb L (.lst []))) ∧ ∀ i m H, Wf i m H →
      ((Itr 0 cnt).stop i H ∧ Qd H) ∨ ((Itr 0 cnt).go i H ∧ ∃ Nx : Hp → Prop, (∀ H', Nx H' → ∃ m', m' < m ∧ Wf (i + 1) m' H') ∧ ∀ x H', (Itr 0 cnt).yld i H x H' → g x (wipe σ vs) H' fun σ2 H2 => wipe σ2 vs = wipe σ vs ∧ tYes σ2 H2 fun b H3 =>
        if b = true then te σ2 H3 fun y H4 => ∃ acc, H4 L = some (.lst acc) ∧ acc.length < sizeLine ∧ Nx (upd H4 L (.lst (acc ++ [y]))) else Nx H3) := by
  have La := C.ne nL
  refine lc_range (fun m H' => ∃ (xs : List V) (ds : List PyData) (c' : Int), Grw a Hb H' ∧ CrAt H' a y c' ∧ c' ≤ c + (m * k : Nat) ∧ H' L = some (.lst xs) ∧ ShwAll H' xs ds ∧ ds.length = m ∧ ∀ d ∈ ds, W d)
    ⟨[], [], c, Grw.of (same_upd nL), C.same (same_upd nL), by simp, upd_same, .nil, rfl, fun d h => by cases h⟩ (fun m H' hm hP => ?_) (fun H' hP => ?_)
  · obtain ⟨xs, ds, c', G, C', l', hL, sh, ld, hw⟩ := hP
    refine step m H' c' hm G C' l' _ fun r d c2 H2 wd sr C2 l2 g2 => ?_
    have la := ShwAll.len sh
    have hL2 := g2 _ _ La hL
    have qa := cqAll_of fun d hd => hW d (hw d hd)
    have sh2 := ShwAll.grw C' g2 (cq_gdAll _ qa).2.1 sh
    have tp : Tup H2 (upd H2 L (.lst (xs ++ [r]))) := fun b ys e => by
      rw [upd_ne (fun z => by rw [z, hL2] at e; cases e)]
      exact e
    refine ⟨xs, hL2, by rw [sizeLine_eq]; omega, xs ++ [r], ds ++ [d], c2, fun b o nb e => ?_, ?_, ?_, upd_same, ?_, by rw [List.length_append, ld]; rfl, fun z hz => ?_⟩
    · rw [upd_ne (ne_of_none e nL)]
      exact g2 _ _ nb (G _ _ nb e)
    · obtain ⟨x2, e2, c2'⟩ := C2
      exact ⟨x2, by rw [upd_ne La.symm]; exact e2, c2'⟩
    · have : ((m + 1) * k : Nat) = m * k + k := Nat.succ_mul m k
      rw [this]
      omega
    · exact ShwAll.snoc (ShwAll.tupd tp qa sh2) (Shw.tupd tp (hW d wd) sr)
    · rcases List.mem_append.mp hz with hz | hz
      · exact hw z hz
      · rw [List.mem_singleton] at hz
        rw [hz]
        exact wd
  · obtain ⟨xs, ds, c', G, C', l', hL, sh, ld, hw⟩ := hP
    exact fin xs ds c' H' G C' l' hL sh ld hw
section
variable {ps : List (Str × Str)} {qs rs own : List Str}
theorem jf_tup {n : Nat} {k : Kd} {d : PyData} (h : jf ps qs rs n k own d = true) : ∃ z es, d = .tuple (.str z :: es) := by
  cases e : isWd d with
  | true => exact wd_is e
  | false => rw [jf_odd e] at h; cases h
theorem head_tup {ds : List PyData} (h : ∀ d ∈ ds, ∃ z es, d = PyData.tuple (.str z :: es)) : headInt ds = false := by
  cases ds with
  | nil => rfl
  | cons d ds =>
    obtain ⟨z, es, rfl⟩ := h d List.mem_cons_self
    rfl
/-- a word with a tuple of small data -/
theorem and_sm {D M : Nat} {z : Str} {ds : List PyData} (hz : z ∈ LC) (l : ds.length ≤ 4) (hd : headInt ds = false) (h : ∀ d ∈ ds, Sm D M d) : Sm (D + 2) (3 + ds.length * M) (.tuple [.str z, .tuple ds]) := by
  obtain ⟨a, b, c⟩ := sm_all h
  refine ⟨?_, ?_, ?_⟩
  · have e : cq (.tuple ds) = true := by simp only [cq, hd, a, decide_eq_true l, Bool.not_false, Bool.and_self]
    have e2 : cq (.str z) = true := decide_eq_true (LQ_c hz)
    show (decide (2 ≤ 4) && (!false && cqAll [.str z, .tuple ds])) = true
    simp only [cqAll, e, e2]
    rfl
  · simp only [PyData.depth, PyData.depthAll]
    omega
  · simp only [nn, nnAll]
    omega
theorem jf_and {n : Nat} {k : Kd} {z : Str} {ds : List PyData} (hz : z = "and" ∨ z = "or") (h : ∀ d ∈ ds, jf ps qs rs n k own d = true) : jf ps qs rs (n + 1) k own (.tuple [.str z, .tuple ds]) = true := by
  have e : jf ps qs rs (n + 1) k own (.tuple [.str z, .tuple ds]) = ds.all (jf ps qs rs n k own) := by
    rcases hz with rfl | rfl <;> rfl
  rw [e]
  exact List.all_eq_true.mpr h
end
def kG : Nat → Nat
  | 0 => 6
  | n + 1 => 3 * kG n + 7
def bG : Nat → Nat
  | 0 => 9
  | n + 1 => 3 * bG n + 9
def guW (ps : List (Str × Str)) (qs rs own : List Str) (n : Nat) (d : PyData) : Prop := (∀ m, n ≤ m → jf ps qs rs (m + 1) .guard own d = true) ∧ Sm (2 + 2 * n) (bG n) d
def spGu (n : Nat) : Sp := fun vs H Q _ => ∃ (a l : Addr) (y c : Int) (ps : List (Str × Str)) (qs rs own : List Str) (x : V), vs = [.ref a, .ref l, x, .int n] ∧ Dw H a l y c ps qs rs ∧ c + kG n ≤ 970000 ∧ Txts H x own ∧ OwnW ps qs rs own ∧ Drw a y c (kG n) (guW ps qs rs own n) H Q
section
variable {P : Program} {w : World} {K : PySem.W.Frag} {mg : Str → Option Value} {base : Heap}
theorem ok_gu {f : Addr} {fd : FuncData} (F : Fun K "_law_guard" "_law_guard" sGu f fd) (hb : Binds K fd ["_law_creel_here", "_law_parts_here", "_law_own", "_law_deep"] []) (hm : mg "_law_guard" = some (.ref f)) (B : Free mg)
    (Fi : Fnc P w K mg base CX0 1 "_law_fish" ["_law_creel_here", "_law_total"] spFish) (On : Fnc P w K mg base CX0 2 "_law_one_of" ["_law_creel_here", "_law_items"] spOne) (OT : Fnc P w K mg base CX0 2 "_law_one_of" ["_law_creel_here", "_law_items"] spOneT)
    (Pl : Fnc P w K mg base CX0 3 "_law_place" ["_law_creel_here", "_law_parts_here", "_law_own"] spPlc) :
    ∀ n, FnOk P w K mg base CX0 (4 + n) f fd ["_law_creel_here", "_law_parts_here", "_law_own", "_law_deep"] (spGu n)
  | 0 => by
    show FnOk P w K mg base CX0 (3 + 1) f fd _ _
    refine F.ok scGu (fun vs H Q E h => ?_) (fun cdv A outer s H vs Q E hr h => ?_)
    · obtain ⟨a, l, y, c, ps, qs, rs, own, x, rfl, _⟩ := h
      rfl
    · obtain ⟨a, l, y, c, ps, qs, rs, own, x, rfl, D, hc, yo, ow, q⟩ := h
      refine ⟨_, pss_cons (ps_if (PW.pt (pw_and (pt_cmpR op_gt (pv 3) pe_int (nomark _)) (pw_and1 (pt_cmpR op_eq (pe_fnc Fi hr (by omega) (by rfl) pass0 (pa_cons (pv 0) (pa_cons pe_int pa_nil))) pe_int (nomark _)))))
        (pss_cons ps_never (pss_one ps_never)) pss_nil) (gu_tail hr (by omega) Fi On OT Pl), ?_⟩
      refine ⟨.int 0, rfl, _, _, rfl, rfl, _, rfl, ?_⟩
      have hc : c + (6 : Nat) ≤ 970000 := hc
      refine iteF' (by decide) (iteF ⟨a, l, y, c, 0, ps, qs, rs, own, x, rfl, D, by omega, yo, ow, fun r d c' H' wd s C' l' G' => q r d c' H' ⟨fun m _ => (wd m).1, (wd 0).2⟩ s C' l' G'⟩)
  | n + 1 => by
    have ih := ok_gu F hb hm B Fi On OT Pl n
    have Rc : Fnc P w K mg base CX0 (4 + n) "_law_guard" ["_law_creel_here", "_law_parts_here", "_law_own", "_law_deep"] (spGu n) := ⟨⟨f, fd, ih, hb, hm, F.kp⟩⟩
    show FnOk P w K mg base CX0 ((4 + n) + 1) f fd _ _
    refine F.ok scGu (fun vs H Q E h => ?_) (fun cdv A outer s H vs Q E hr h => ?_)
    · obtain ⟨a, l, y, c, ps, qs, rs, own, x, rfl, _⟩ := h
      rfl
    · obtain ⟨a, l, y, c, ps, qs, rs, own, x, rfl, D, hc, yo, ow, q⟩ := h
      refine ⟨_, pss_cons (ps_if (PW.pt (pw_and (pt_cmpR op_gt (pv 3) pe_int (nomark _)) (pw_and1 (pt_cmpR op_eq (pe_fnc Fi hr (by omega) (by rfl) pass0 (pa_cons (pv 0) (pa_cons pe_int pa_nil))) pe_int (nomark _)))))
        (pss_cons (ps_setLc (i := 4) (own := [("_law_turn", 8)]) (g := gName 8) (tt := tYes) rfl scGu.nd rfl rfl (sw_true rfl rfl rfl (by decide +kernel)) (pi_range1 (by rfl) B.range (pa_cons (pe_fnc Fi hr (by omega) (by rfl) pass0 (pa_cons (pv 0) (pa_cons pe_int pa_nil))) pa_nil)) (blkOk_by (N := nGu) (sc := defScope sGu) (by decide +kernel))
            (fun _ _ _ _ _ => pg_name (i := 8) scGu.nd rfl (Or.inl rfl) (Or.inr rfl)) (fun _ _ _ _ _ => pts_nil) (fun _ _ _ _ _ => pe_fnc Rc hr (by omega) (by rfl) pass0 (pa_cons (pv 0) (pa_cons (pv 1) (pa_cons (pv 2) (pa_cons (pe_op op_sub (pv 3) pe_int) pa_nil))))))
          (pss_one (ps_ret (pe_tup (pa_cons (pe_fnc On hr (by omega) (by rfl) pass0 (pa_cons (pv 0) (pa_cons (pe_lst (pa_cons pe_str (pa_cons pe_str (pa_cons pe_str pa_nil)))) pa_nil)))
            (pa_cons (pe_callTy call_tuple_of (by rfl) B.tuple (by decide +kernel) (pa_cons (pv 4) pa_nil)) pa_nil)))))) pss_nil) (gu_tail hr (by omega) Fi On OT Pl), ?_⟩
      have ek : kG (n + 1) = 3 * kG n + 7 := rfl
      have eb : bG (n + 1) = 3 * bG n + 9 := rfl
      refine ⟨.int ((n + 1 : Nat) : Int), rfl, _, _, rfl, rfl, _, rfl, ?_⟩
      refine iteT' (decide_eq_true (by show (0 : Int) < _; omega)) ⟨.ref a, rfl, ?_⟩
      (first | refine (use_fish (t := 2) D.cr (by omega) (by decide) (by decide) fun r c1 H1 r0 r1 C1 l1 g1 => ?_) | (show tNil _ _ _; unfold tNil; refine (use_fish (t := 2) D.cr (by omega) (by decide) (by decide) fun r c1 H1 r0 r1 C1 l1 g1 => ?_)) | ((try unfold tCons); (try unfold tNil); (try unfold tC); refine (use_fish (t := 2) D.cr (by omega) (by decide) (by decide) fun r c1 H1 r0 r1 C1 l1 g1 => ?_)))
      have D1 := D.grw g1 C1
      refine ⟨rfl, _, rfl, ite2 (fun _ => ?_) (fun _ => ?_)⟩
      · refine ⟨.ref a, rfl, ?_⟩
        (first | refine (use_fish (t := 4) C1 (by omega) (by decide) (by decide) fun r c2 H2 r0 r1 C2 l2 g2 => ?_) | (show tNil _ _ _; unfold tNil; refine (use_fish (t := 4) C1 (by omega) (by decide) (by decide) fun r c2 H2 r0 r1 C2 l2 g2 => ?_)) | ((try unfold tCons); (try unfold tNil); (try unfold tC); refine (use_fish (t := 4) C1 (by omega) (by decide) (by decide) fun r c2 H2 r0 r1 C2 l2 g2 => ?_)))
        have D2 := D1.grw g2 C2
        have G2 := g1.trans g2
        have yo2 := Txts.grw D.cr G2 yo
        refine ⟨r, rfl, by omega, by omega, fun L nL => ?_⟩
        have lr : r.toNat ≤ 3 := by omega
        have kk : r.toNat * kG n ≤ 3 * kG n := Nat.mul_le_mul_right _ lr
        have en1 : ((n + 1 : Nat) : Int) - 1 = (n : Int) := by omega
        refine lc_drw (k := kG n) (W := guW ps qs rs own n) (fun d h => h.2.c) C2 nL (by omega) (fun m H' c' hm G' C' l' Q' k => ?_) (fun xs ds c' H' G' C' l' hL sh ld hw => ?_)
        · have mk : m * kG n ≤ 2 * kG n := Nat.mul_le_mul_right _ (by omega)
          refine ⟨rfl, .ref a, rfl, .ref l, rfl, x, rfl, .int ((n + 1 : Nat) : Int), rfl, _, _, rfl, rfl, ?_⟩
          refine ⟨a, l, y, c', ps, qs, rs, own, x, ?_, D2.grw G' C', by omega, Txts.grw C2 G' yo2, ow, k⟩
          show [V.ref a, V.ref l, x, V.int (((n + 1 : Nat) : Int) - 1)] = _
          rw [en1]
        · refine ⟨.ref a, rfl, le_line (by simp), fun r2 n2 => ?_⟩
          have w1 := same_upd (p := r2) (o := .lst ((["and", "and", "or"] : List Str).map V.str)) n2
          (first | refine (use_oneS (zs := ["and", "and", "or"]) (C'.same w1) (by omega) upd_same (C'.ne n2) (by decide) (by decide) fun z c3 H3 hz C3 l3 g3 => ?_) | (show tNil _ _ _; unfold tNil; refine (use_oneS (zs := ["and", "and", "or"]) (C'.same w1) (by omega) upd_same (C'.ne n2) (by decide) (by decide) fun z c3 H3 hz C3 l3 g3 => ?_)) | ((try unfold tCons); (try unfold tNil); (try unfold tC); refine (use_oneS (zs := ["and", "and", "or"]) (C'.same w1) (by omega) upd_same (C'.ne n2) (by decide) (by decide) fun z c3 H3 hz C3 l3 g3 => ?_)))
          have qa := cqAll_of fun d hd => (hw d hd).2.c
          have La := C2.ne nL
          have hL3 := g3 _ _ La (w1 _ _ hL)
          have sh3 := ShwAll.grw (C'.same w1) g3 (cq_gdAll _ qa).2.1 (ShwAll.same sh w1)
          refine ⟨.ref L, rfl, L, xs, rfl, .inl ⟨SqL.of hL3, fun t nt => ⟨le_line (by simp), fun t2 nt2 => ?_⟩⟩⟩
          have w2 := same_upd (p := t) (o := .tup xs) nt
          have w3 := same_upd (p := t2) (o := .tup [.str z, .ref t]) nt2
          have hz2 : z = "and" ∨ z = "or" := by
            simp only [List.mem_cons, List.not_mem_nil, or_false] at hz
            rcases hz with h | h | h
            · exact .inl h
            · exact .inl h
            · exact .inr h
          refine q _ (.tuple [.str z, .tuple ds]) c3 _ ⟨fun m hm => ?_, ?_⟩ (.tup upd_same (.cons (.str z) (.cons (.tup (w3 _ _ upd_same) (ShwAll.same sh3 (w2.trans w3))) .nil))) (C3.same (w2.trans w3)) (by omega) (((G2.trans G').trans (Grw.of w1)).trans (g3.trans (Grw.of (w2.trans w3))))
          · obtain ⟨m', rfl⟩ : ∃ m', m = m' + 1 := ⟨m - 1, by omega⟩
            exact jf_and hz2 fun d hd => (hw d hd).1 m' (by omega)
          · have z := and_sm (z := z) (by rcases hz2 with rfl | rfl <;> decide +kernel) (by omega) (head_tup fun d hd => jf_tup ((hw d hd).1 n (Nat.le_refl _))) fun d hd => (hw d hd).2
            refine z.up (by omega) ?_
            rw [eb, ld]
            have : r.toNat * bG n ≤ 3 * bG n := Nat.mul_le_mul_right _ lr
            omega
      · refine ⟨a, l, y, c1, _, ps, qs, rs, own, x, rfl, D1, by omega, Txts.grw D.cr g1 yo, ow, fun r d c' H' wd s C' l' G' => q r d c' H' ⟨fun m _ => (wd m).1, (wd 0).2.up (by omega) ?_⟩ s C' (by omega) (g1.trans G')⟩
        have : ∀ n, 9 ≤ bG n := fun n => by
          cases n with
          | zero => exact Nat.le_refl _
          | succ n => show 9 ≤ 3 * bG n + 9; omega
        exact this _
end
end K03

set_option autoImplicit false
set_option maxRecDepth 100000
set_option maxHeartbeats 4000000
/-! bodies drawn -/
namespace K03
open PySem PySem.Spec PyProof.Rows L2 KX
abbrev sBo : Stmt := topS 59
abbrev nBo : List Str := ["_law_creel_here", "_law_parts_here", "_law_own", "_law_deep", "_law_way", "_law_some", "_law_op", "_law_turn"]
theorem scBo : FnScope nBo ["_law_creel_here", "_law_parts_here", "_law_own", "_law_deep"] (defScope sBo) := ⟨rfl, rfl, rfl, by decide +kernel, rfl, by decide +kernel, by decide +kernel⟩
/-- own names, or none -/
structure OwnE (ps : List (Str × Str)) (qs rs own : List Str) : Prop where
  l2 : own.length ≤ 2
  m : ∀ z ∈ own, z ∈ OW6
  nw : ∀ z ∈ own, z ∉ wordsOf ps qs rs
theorem OwnW.e {ps : List (Str × Str)} {qs rs own : List Str} (o : OwnW ps qs rs own) : OwnE ps qs rs own := ⟨o.l2, o.m, o.nw⟩
theorem own_nil {ps : List (Str × Str)} {qs rs : List Str} : OwnE ps qs rs [] := ⟨by decide, fun z h => by (cases h), fun z h => by (cases h)⟩
def kB : Nat → Nat
  | 0 => 17
  | n + 1 => 2 * kB n + 20
def bB : Nat → Nat
  | 0 => 13
  | n + 1 => 2 * bB n + 13
def boW (ps : List (Str × Str)) (qs rs own : List Str) (n : Nat) (d : PyData) : Prop := (∀ m, n ≤ m → jf ps qs rs (m + 1) .body own d = true) ∧ Sm (2 + 2 * n) (bB n) d ∧ (n = 0 → ∀ m, jf ps qs rs (m + 1) .form own d = true)
def spBo (n : Nat) : Sp := fun vs H Q _ => ∃ (a l : Addr) (y c : Int) (ps : List (Str × Str)) (qs rs own : List Str) (x : V), vs = [.ref a, .ref l, x, .int n] ∧ Dw H a l y c ps qs rs ∧ c + kB n ≤ 960000 ∧ Txts H x own ∧ OwnE ps qs rs own ∧ Drw a y c (kB n) (boW ps qs rs own n) H Q
section
variable {ps : List (Str × Str)} {qs rs own : List Str}
theorem op_good {z : Str} (hz : z ∈ (["<=", "<", "=="] : List Str)) : isOp (.str z) = true ∧ z ∈ LQ := by
  refine ⟨decide_eq_true hz, LQ_c ?_⟩
  simp only [List.mem_cons, List.not_mem_nil, or_false] at hz
  rcases hz with rfl | rfl | rfl <;> decide +kernel
theorem four_sm {z1 z2 : Str} {d1 d2 : PyData} {M : Nat} (h1 : z1 ∈ LQ) (h2 : z2 ∈ LQ) (s1 : Sm 1 M d1) (s2 : Sm 1 M d2) : Sm 2 (3 + 2 * M) (.tuple [.str z1, .str z2, d1, d2]) := by
  have e1 : cq (.str z1) = true := decide_eq_true h1
  have e2 : cq (.str z2) = true := decide_eq_true h2
  have n1 := s1.w
  have n2 := s2.w
  have p1 := s1.p
  have p2 := s2.p
  refine ⟨?_, ?_, ?_⟩
  · show (decide (4 ≤ 4) && (!false && cqAll [.str z1, .str z2, d1, d2])) = true
    simp only [cqAll, e1, e2, s1.c, s2.c]
    rfl
  · simp only [PyData.depth, PyData.depthAll]
    omega
  · simp only [nn, nnAll]
    omega
theorem body_val {z : Str} {d1 d2 : PyData} (hz : z ∈ (["<=", "<", "=="] : List Str)) (o1 : (isVal ps qs rs own d1 && besideT own d1) = true ∧ Sm 1 5 d1) (o2 : (isVal ps qs rs own d2 && besideT own d2) = true ∧ Sm 1 5 d2) :
    (∀ m, jf ps qs rs (m + 1) .body own (.tuple [.str "val", .str z, d1, d2]) = true ∧ jf ps qs rs (m + 1) .form own (.tuple [.str "val", .str z, d1, d2]) = true) ∧ Sm 2 13 (.tuple [.str "val", .str z, d1, d2]) := by
  obtain ⟨h1, h2⟩ := op_good hz
  obtain ⟨⟨a1, b1⟩, s1⟩ : (isVal ps qs rs own d1 = true ∧ besideT own d1 = true) ∧ _ := ⟨Bool.and_eq_true_iff.mp o1.1, o1.2⟩
  obtain ⟨⟨a2, b2⟩, s2⟩ : (isVal ps qs rs own d2 = true ∧ besideT own d2 = true) ∧ _ := ⟨Bool.and_eq_true_iff.mp o2.1, o2.2⟩
  refine ⟨fun m => ⟨?_, ?_⟩, four_sm (LQ_c (by decide)) h2 s1 s2⟩
  · rw [jf_bval]
    show ((isOp (.str z) && (isVal ps qs rs own d1 && isVal ps qs rs own d2)) && (besideT own d1 && besideT own d2)) = true
    rw [h1, a1, a2, b1, b2]
    rfl
  · show (isOp (.str z) && (isVal ps qs rs own d1 && isVal ps qs rs own d2)) = true
    rw [h1, a1, a2]
    rfl
end
def boR : TS := fun Dn σ H => ∃ (a l : Addr) (y c n r : Int) (ps : List (Str × Str)) (qs rs own : List Str) (x : V), σ = [some (.ref a), some (.ref l), some x, some (.int n), some (.int r), none, none, none] ∧ Dw H a l y c ps qs rs ∧ c ≤ 970000 ∧ Txts H x own ∧ OwnE ps qs rs own ∧
  Drw a y c 17 (boW ps qs rs own 0) H Dn.rt
section
variable {P : Program} {w : World} {K : PySem.W.Frag} {mg : Str → Option Value} {base : Heap}
theorem bo_tail {f : Addr} {cdv : Value} {A : Around} {outer : List Env} {s : Shared} {H0 : Hp} {E : XK} {k : Nat} (hr : Room k (A.deeper (envOfC "_law_body" (defScope sBo) s.heap.objs.size f cdv))) (hk : 4 ≤ k)
    (On : Fnc P w K mg base CX0 2 "_law_one_of" ["_law_creel_here", "_law_items"] spOne) (Wt : Fnc P w K mg base CX0 4 "_law_worth" ["_law_creel_here", "_law_parts_here", "_law_own"] spWth) :
    PSs (cxOf CX0 P w K mg base nBo "_law_body" (defScope sBo) f cdv A outer s H0 E).nox ((defBody sBo).drop 3) boR := by
  refine pss_imp (pss_cons (ps_set (i := 6) scBo.nd rfl (.inl rfl) (pe_fnc On hr (by omega) (by rfl) pass0 (pa_cons (pv 0) (pa_cons (pe_lst (pa_cons pe_str (pa_cons pe_str (pa_cons pe_str pa_nil)))) pa_nil))))
    (pss_one (ps_ret (pe_tup (pa_cons pe_str (pa_cons (pv 6) (pa_cons (pe_fnc Wt hr (by omega) (by rfl) pass0 (pa_cons (pv 0) (pa_cons (pv 1) (pa_cons (pv 2) pa_nil)))) (pa_cons (pe_fnc Wt hr (by omega) (by rfl) pass0 (pa_cons (pv 0) (pa_cons (pv 1) (pa_cons (pv 2) pa_nil)))) pa_nil)))))))) ?_
  rintro Dn σ H ⟨a, l, y, c, n, r, ps, qs, rs, own, x, rfl, D, hc, yo, ow, q⟩
  refine ⟨.ref a, rfl, le_line (by simp), fun r1 n1 => ?_⟩
  have w1 := same_upd (p := r1) (o := .lst ((["<=", "<", "=="] : List Str).map V.str)) n1
  (first | refine (use_oneS (zs := ["<=", "<", "=="]) (D.cr.same w1) (by omega) upd_same (D.cr.ne n1) (by decide) (by decide) fun z c2 H2 hz C2 l2 g2 => ?_) | (show tNil _ _ _; unfold tNil; refine (use_oneS (zs := ["<=", "<", "=="]) (D.cr.same w1) (by omega) upd_same (D.cr.ne n1) (by decide) (by decide) fun z c2 H2 hz C2 l2 g2 => ?_)) | ((try unfold tCons); (try unfold tNil); (try unfold tC); refine (use_oneS (zs := ["<=", "<", "=="]) (D.cr.same w1) (by omega) upd_same (D.cr.ne n1) (by decide) (by decide) fun z c2 H2 hz C2 l2 g2 => ?_)))
  have G2 := (Grw.of w1).trans g2
  have D2 := D.grw G2 C2
  have yo2 := Txts.grw D.cr G2 yo
  refine ⟨.str z, rfl, .ref a, rfl, .ref l, rfl, x, rfl, ?_⟩
  (first | refine (⟨a, l, y, c2, ps, qs, rs, own, x, rfl, D2, by omega, yo2, ow.l2, ow.m, fun v3 d3 c3 H3 wd3 s3 C3 l3 g3 => ?_⟩) | (show tNil _ _ _; unfold tNil; refine (⟨a, l, y, c2, ps, qs, rs, own, x, rfl, D2, by omega, yo2, ow.l2, ow.m, fun v3 d3 c3 H3 wd3 s3 C3 l3 g3 => ?_⟩)) | ((try unfold tCons); (try unfold tNil); (try unfold tC); refine (⟨a, l, y, c2, ps, qs, rs, own, x, rfl, D2, by omega, yo2, ow.l2, ow.m, fun v3 d3 c3 H3 wd3 s3 C3 l3 g3 => ?_⟩)))
  have o3 := wth_ok D.gp ow.m ow.nw wd3
  have D3 := D2.grw g3 C3
  have yo3 := Txts.grw C2 g3 yo2
  refine ⟨.ref a, rfl, .ref l, rfl, x, rfl, ?_⟩
  (first | refine (⟨a, l, y, c3, ps, qs, rs, own, x, rfl, D3, by omega, yo3, ow.l2, ow.m, fun v4 d4 c4 H4 wd4 s4 C4 l4 g4 => ?_⟩) | (show tNil _ _ _; unfold tNil; refine (⟨a, l, y, c3, ps, qs, rs, own, x, rfl, D3, by omega, yo3, ow.l2, ow.m, fun v4 d4 c4 H4 wd4 s4 C4 l4 g4 => ?_⟩)) | ((try unfold tCons); (try unfold tNil); (try unfold tC); refine (⟨a, l, y, c3, ps, qs, rs, own, x, rfl, D3, by omega, yo3, ow.l2, ow.m, fun v4 d4 c4 H4 wd4 s4 C4 l4 g4 => ?_⟩)))
  have o4 := wth_ok D.gp ow.m ow.nw wd4
  refine ⟨le_line (by simp), fun t nt => ?_⟩
  have w5 := same_upd (p := t) (o := .tup [.str "val", .str z, v3, v4]) nt
  have s34 := Shw.grw C3 g4 (cq_gd _ o3.2.c).2.1 s3
  have bv := body_val hz o3 o4
  exact q _ (.tuple [.str "val", .str z, d3, d4]) c4 _ ⟨fun m _ => (bv.1 m).1, bv.2, fun _ m => (bv.1 m).2⟩ (.tup upd_same (.cons (.str _) (.cons (.str z) (.cons (Shw.same s34 w5) (.cons (Shw.same s4 w5) .nil))))) (C4.same w5) (by omega) (((G2.trans g3).trans g4).trans (Grw.of w5))
theorem ok_bo {f : Addr} {fd : FuncData} (F : Fun K "_law_body" "_law_body" sBo f fd) (hb : Binds K fd ["_law_creel_here", "_law_parts_here", "_law_own", "_law_deep"] []) (hm : mg "_law_body" = some (.ref f)) (B : Free mg)
    (Fi : Fnc P w K mg base CX0 1 "_law_fish" ["_law_creel_here", "_law_total"] spFish) (On : Fnc P w K mg base CX0 2 "_law_one_of" ["_law_creel_here", "_law_items"] spOne) (Wt : Fnc P w K mg base CX0 4 "_law_worth" ["_law_creel_here", "_law_parts_here", "_law_own"] spWth) :
    ∀ n, FnOk P w K mg base CX0 (5 + n) f fd ["_law_creel_here", "_law_parts_here", "_law_own", "_law_deep"] (spBo n)
  | 0 => by
    show FnOk P w K mg base CX0 (4 + 1) f fd _ _
    refine F.ok scBo (fun vs H Q E h => ?_) (fun cdv A outer s H vs Q E hr h => ?_)
    · obtain ⟨a, l, y, c, ps, qs, rs, own, x, rfl, _⟩ := h
      rfl
    · obtain ⟨a, l, y, c, ps, qs, rs, own, x, rfl, D, hc, yo, ow, q⟩ := h
      refine ⟨_, pss_cons (ps_set (i := 4) scBo.nd rfl (.inl rfl) (pe_ifExp (pt_cmpR op_gt (pv 3) pe_int (nomark _)) (pe_fnc Fi hr (by omega) (by rfl) pass0 (pa_cons (pv 0) (pa_cons pe_int pa_nil))) pe_int))
        (pss_cons (ps_if (pt_cmpR op_eq (pv 4) pe_int (nomark _)) (pss_one ps_never) pss_nil)
        (pss_cons (ps_if (pt_cmpR op_eq (pv 4) pe_int (nomark _)) (pss_cons ps_never (pss_one ps_never)) pss_nil) (bo_tail hr (by omega) On Wt))), ?_⟩
      have hc : c + (17 : Nat) ≤ 960000 := hc
      refine ⟨.int 0, rfl, _, _, rfl, rfl, _, rfl, iteF' (by decide) ?_⟩
      refine ⟨.int 4, rfl, rfl, _, rfl, iteF' (by decide) ⟨.int 4, rfl, rfl, _, rfl, iteF' (by decide) ?_⟩⟩
      exact ⟨a, l, y, c, 0, 4, ps, qs, rs, own, x, rfl, D, by omega, yo, ow, q⟩
  | n + 1 => by
    have ih := ok_bo F hb hm B Fi On Wt n
    have Rc : Fnc P w K mg base CX0 (5 + n) "_law_body" ["_law_creel_here", "_law_parts_here", "_law_own", "_law_deep"] (spBo n) := ⟨⟨f, fd, ih, hb, hm, F.kp⟩⟩
    show FnOk P w K mg base CX0 ((5 + n) + 1) f fd _ _
    refine F.ok scBo (fun vs H Q E h => ?_) (fun cdv A outer s H vs Q E hr h => ?_)
    · obtain ⟨a, l, y, c, ps, qs, rs, own, x, rfl, _⟩ := h
      rfl
    · obtain ⟨a, l, y, c, ps, qs, rs, own, x, rfl, D, hc, yo, ow, q⟩ := h
      refine ⟨_, pss_cons (ps_set (i := 4) scBo.nd rfl (.inl rfl) (pe_ifExp (pt_cmpR op_gt (pv 3) pe_int (nomark _)) (pe_fnc Fi hr (by omega) (by rfl) pass0 (pa_cons (pv 0) (pa_cons pe_int pa_nil))) pe_int))
        (pss_cons (ps_if (pt_cmpR op_eq (pv 4) pe_int (nomark _)) (pss_one (ps_ret (pe_tup (pa_cons pe_str (pa_cons (pe_fnc Rc hr (by omega) (by rfl) pass0 (pa_cons (pv 0) (pa_cons (pv 1) (pa_cons (pv 2) (pa_cons (pe_op op_sub (pv 3) pe_int) pa_nil))))) pa_nil))))) pss_nil)
        (pss_cons (ps_if (pt_cmpR op_eq (pv 4) pe_int (nomark _))
          (pss_cons (ps_setLc (i := 5) (own := [("_law_turn", 7)]) (g := gName 7) (tt := tYes) rfl scBo.nd rfl rfl (sw_true rfl rfl rfl (by decide +kernel)) (pi_range1 (by rfl) B.range (pa_cons (pe_fnc Fi hr (by omega) (by rfl) pass0 (pa_cons (pv 0) (pa_cons pe_int pa_nil))) pa_nil)) (blkOk_by (N := nBo) (sc := defScope sBo) (by decide +kernel))
              (fun _ _ _ _ _ => pg_name (i := 7) scBo.nd rfl (Or.inl rfl) (Or.inr rfl)) (fun _ _ _ _ _ => pts_nil) (fun _ _ _ _ _ => pe_fnc Rc hr (by omega) (by rfl) pass0 (pa_cons (pv 0) (pa_cons (pv 1) (pa_cons (pv 2) (pa_cons (pe_op op_sub (pv 3) pe_int) pa_nil))))))
            (pss_one (ps_ret (pe_tup (pa_cons (pe_fnc On hr (by omega) (by rfl) pass0 (pa_cons (pv 0) (pa_cons (pe_lst (pa_cons pe_str (pa_cons pe_str pa_nil))) pa_nil)))
              (pa_cons (pe_callTy call_tuple_of (by rfl) B.tuple (by decide +kernel) (pa_cons (pv 5) pa_nil)) pa_nil)))))) pss_nil) (bo_tail hr (by omega) On Wt))), ?_⟩
      have ek : kB (n + 1) = 2 * kB n + 20 := rfl
      have eb : bB (n + 1) = 2 * bB n + 13 := rfl
      have en1 : ((n + 1 : Nat) : Int) - 1 = (n : Int) := by omega
      refine ⟨.int ((n + 1 : Nat) : Int), rfl, _, _, rfl, rfl, _, rfl, iteT' (decide_eq_true (by show (0 : Int) < _; omega)) ⟨.ref a, rfl, ?_⟩⟩
      (first | refine (use_fish (t := 5) D.cr (by omega) (by decide) (by decide) fun r c1 H1 r0 r1 C1 l1 g1 => ?_) | (show tNil _ _ _; unfold tNil; refine (use_fish (t := 5) D.cr (by omega) (by decide) (by decide) fun r c1 H1 r0 r1 C1 l1 g1 => ?_)) | ((try unfold tCons); (try unfold tNil); (try unfold tC); refine (use_fish (t := 5) D.cr (by omega) (by decide) (by decide) fun r c1 H1 r0 r1 C1 l1 g1 => ?_)))
      have D1 := D.grw g1 C1
      have yo1 := Txts.grw D.cr g1 yo
      refine ⟨.int r, rfl, rfl, _, rfl, ite2 (fun _ => ?_) (fun _ => ?_)⟩
      · refine ⟨.ref a, rfl, .ref l, rfl, x, rfl, .int ((n + 1 : Nat) : Int), rfl, _, _, rfl, rfl, ?_⟩
        (first | refine (⟨a, l, y, c1, ps, qs, rs, own, x, (by show [V.ref a, V.ref l, x, V.int (((n + 1 : Nat) : Int) - 1)] = _; rw [en1]), D1, by omega, yo1, ow, fun v d c2 H2 wd sd C2 l2 g2 => ?_⟩) | (show tNil _ _ _; unfold tNil; refine (⟨a, l, y, c1, ps, qs, rs, own, x, (by show [V.ref a, V.ref l, x, V.int (((n + 1 : Nat) : Int) - 1)] = _; rw [en1]), D1, by omega, yo1, ow, fun v d c2 H2 wd sd C2 l2 g2 => ?_⟩)) | ((try unfold tCons); (try unfold tNil); (try unfold tC); refine (⟨a, l, y, c1, ps, qs, rs, own, x, (by show [V.ref a, V.ref l, x, V.int (((n + 1 : Nat) : Int) - 1)] = _; rw [en1]), D1, by omega, yo1, ow, fun v d c2 H2 wd sd C2 l2 g2 => ?_⟩)))
        refine ⟨le_line (by simp), fun t nt => ?_⟩
        have w3 := same_upd (p := t) (o := .tup [.str "not", v]) nt
        refine q _ (.tuple [.str "not", d]) c2 _ ⟨fun m hm => ?_, ?_, fun h => nomatch h⟩ (.tup upd_same (.cons (.str _) (.cons (Shw.same sd w3) .nil))) (C2.same w3) (by omega) ((g1.trans g2).trans (Grw.of w3))
        · obtain ⟨m', rfl⟩ : ∃ m', m = m' + 1 := ⟨m - 1, by omega⟩
          rw [jf_bnot]
          exact wd.1 m' (by omega)
        · have c0 := wd.2.1
          refine ⟨?_, ?_, ?_⟩
          · have e2 : cq (.str "not") = true := by decide +kernel
            show (decide (2 ≤ 4) && (!false && cqAll [.str "not", d])) = true
            simp only [cqAll, e2, c0.c]
            rfl
          · have := c0.p
            simp only [PyData.depth, PyData.depthAll]
            omega
          · have := c0.w
            simp only [nn, nnAll]
            omega
      · refine ⟨.int r, rfl, rfl, _, rfl, ite2 (fun _ => ?_) (fun _ => ?_)⟩
        · refine ⟨.ref a, rfl, ?_⟩
          (first | refine (use_fish (t := 3) C1 (by omega) (by decide) (by decide) fun r c2 H2 r0 r1 C2 l2 g2 => ?_) | (show tNil _ _ _; unfold tNil; refine (use_fish (t := 3) C1 (by omega) (by decide) (by decide) fun r c2 H2 r0 r1 C2 l2 g2 => ?_)) | ((try unfold tCons); (try unfold tNil); (try unfold tC); refine (use_fish (t := 3) C1 (by omega) (by decide) (by decide) fun r c2 H2 r0 r1 C2 l2 g2 => ?_)))
          have D2 := D1.grw g2 C2
          have G2 := g1.trans g2
          have yo2 := Txts.grw D.cr G2 yo
          refine ⟨r, rfl, by omega, by omega, fun L nL => ?_⟩
          have lr : r.toNat ≤ 2 := by omega
          have kk : r.toNat * kB n ≤ 2 * kB n := Nat.mul_le_mul_right _ lr
          refine lc_drw (k := kB n) (W := boW ps qs rs own n) (fun d h => h.2.1.c) C2 nL (by omega) (fun m H' c' hm G' C' l' Q' k => ?_) (fun xs ds c' H' G' C' l' hL sh ld hw => ?_)
          · have mk : m * kB n ≤ 1 * kB n := Nat.mul_le_mul_right _ (by omega)
            refine ⟨rfl, .ref a, rfl, .ref l, rfl, x, rfl, .int ((n + 1 : Nat) : Int), rfl, _, _, rfl, rfl, ?_⟩
            refine ⟨a, l, y, c', ps, qs, rs, own, x, ?_, D2.grw G' C', by omega, Txts.grw C2 G' yo2, ow, k⟩
            show [V.ref a, V.ref l, x, V.int (((n + 1 : Nat) : Int) - 1)] = _
            rw [en1]
          · refine ⟨.ref a, rfl, le_line (by simp), fun r2 n2 => ?_⟩
            have w1 := same_upd (p := r2) (o := .lst ((["and", "or"] : List Str).map V.str)) n2
            (first | refine (use_oneS (zs := ["and", "or"]) (C'.same w1) (by omega) upd_same (C'.ne n2) (by decide) (by decide) fun z c3 H3 hz C3 l3 g3 => ?_) | (show tNil _ _ _; unfold tNil; refine (use_oneS (zs := ["and", "or"]) (C'.same w1) (by omega) upd_same (C'.ne n2) (by decide) (by decide) fun z c3 H3 hz C3 l3 g3 => ?_)) | ((try unfold tCons); (try unfold tNil); (try unfold tC); refine (use_oneS (zs := ["and", "or"]) (C'.same w1) (by omega) upd_same (C'.ne n2) (by decide) (by decide) fun z c3 H3 hz C3 l3 g3 => ?_)))
            have qa := cqAll_of fun d hd => (hw d hd).2.1.c
            have La := C2.ne nL
            have hL3 := g3 _ _ La (w1 _ _ hL)
            have sh3 := ShwAll.grw (C'.same w1) g3 (cq_gdAll _ qa).2.1 (ShwAll.same sh w1)
            refine ⟨.ref L, rfl, L, xs, rfl, .inl ⟨SqL.of hL3, fun t nt => ⟨le_line (by simp), fun t2 nt2 => ?_⟩⟩⟩
            have w2 := same_upd (p := t) (o := .tup xs) nt
            have w3 := same_upd (p := t2) (o := .tup [.str z, .ref t]) nt2
            have hz2 : z = "and" ∨ z = "or" := by
              simp only [List.mem_cons, List.not_mem_nil, or_false] at hz
              exact hz
            refine q _ (.tuple [.str z, .tuple ds]) c3 _ ⟨fun m hm => ?_, ?_, fun h => nomatch h⟩ (.tup upd_same (.cons (.str z) (.cons (.tup (w3 _ _ upd_same) (ShwAll.same sh3 (w2.trans w3))) .nil))) (C3.same (w2.trans w3)) (by omega) (((G2.trans G').trans (Grw.of w1)).trans (g3.trans (Grw.of (w2.trans w3))))
            · obtain ⟨m', rfl⟩ : ∃ m', m = m' + 1 := ⟨m - 1, by omega⟩
              exact jf_and hz2 fun d hd => (hw d hd).1 m' (by omega)
            · have z := and_sm (z := z) (by rcases hz2 with rfl | rfl <;> decide +kernel) (by omega) (head_tup fun d hd => jf_tup ((hw d hd).1 n (Nat.le_refl _))) fun d hd => (hw d hd).2.1
              refine z.up (by omega) ?_
              rw [eb, ld]
              have : r.toNat * bB n ≤ 2 * bB n := Nat.mul_le_mul_right _ lr
              omega
        · refine ⟨a, l, y, c1, _, r, ps, qs, rs, own, x, rfl, D1, by omega, yo1, ow, fun v d c' H' wd s C' l' G' => q v d c' H' ⟨fun m _ => wd.1 m (Nat.zero_le _), wd.2.1.up (by omega) ?_, fun h => nomatch h⟩ s C' (by omega) (g1.trans G')⟩
          show 13 ≤ _
          rw [eb]
          omega
end
end K03

set_option autoImplicit false
set_option maxRecDepth 100000
set_option maxHeartbeats 4000000
/-! claims drawn -/
namespace K03
open PySem PySem.Spec PyProof.Rows L2 KX
abbrev sAl : Stmt := topS 60
abbrev nAl : List Str := ["_law_creel_here", "_law_parts_here", "_law_own"]
theorem scAl : FnScope nAl ["_law_creel_here", "_law_parts_here"] (defScope sAl) := ⟨rfl, rfl, rfl, by decide +kernel, rfl, by decide +kernel, by decide +kernel⟩
def alW (ps : List (Str × Str)) (qs rs : List Str) (d : PyData) : Prop := (∀ m, 2 ≤ m → jf ps qs rs (m + 1) .form [] d = true) ∧ Sm 5 80 d
def spAl : Sp := fun vs H Q _ => ∃ (a l : Addr) (y c : Int) (ps : List (Str × Str)) (qs rs : List Str), vs = [.ref a, .ref l] ∧ Dw H a l y c ps qs rs ∧ c ≤ 800000 ∧ Drw a y c 83 (alW ps qs rs) H Q
theorem once_len {zs : List Str} (h : zs.Nodup) : (onceS zs).length = zs.length := by
  have go : ∀ (zs acc : List Str), (acc ++ zs).Nodup → zs.foldl (fun acc z => if z ∈ acc then acc else acc ++ [z]) acc = acc ++ zs := fun zs => by
    induction zs with
    | nil => intro acc _; rw [List.append_nil]; rfl
    | cons y ys ih =>
      intro acc h
      rw [List.foldl_cons]
      have n : y ∉ acc := fun k => (List.nodup_append.mp h).2.2 y k y List.mem_cons_self rfl
      rw [if_neg n, ih (acc ++ [y]) (by rw [List.append_assoc]; exact h), List.append_assoc]
      rfl
  have e : onceS zs = zs := go zs [] h
  rw [e]
theorem OW6_nm : ∀ z ∈ OW6, nameS z = true := by decide +kernel
section
variable {ps : List (Str × Str)} {qs rs own : List Str}
theorem all_ok {g b : PyData} (o : OwnW ps qs rs own) (hg : guW ps qs rs own 1 g) (hb : boW ps qs rs own 1 b) : alW ps qs rs (.tuple [.str "all", .tuple (own.map PyData.str), g, b]) := by
  have od : ownD ps qs rs (.tuple (own.map PyData.str)) = true := by
    rw [ownD_is o.l2 fun z hz => OW6_nm z (o.m z hz), once_len o.nd, decide_eq_false (by have := o.l1; omega), decide_eq_false (Nat.lt_irrefl _)]
    show (own.all fun z => !decide (z ∈ wordsOf ps qs rs)) = true
    exact List.all_eq_true.mpr fun z hz => by rw [decide_eq_false (o.nw z hz)]; rfl
  refine ⟨fun m hm => ?_, ?_⟩
  · obtain ⟨m', rfl⟩ : ∃ m', m = m' + 1 := ⟨m - 1, by omega⟩
    show (ownD ps qs rs (.tuple (own.map PyData.str)) && (jf ps qs rs (m' + 1) .guard (strsD (.tuple (own.map PyData.str))) g && jf ps qs rs (m' + 1) .body (strsD (.tuple (own.map PyData.str))) b)) = true
    rw [od, strs_back, hg.1 m' (by omega), hb.1 m' (by omega)]
    rfl
  · have so : Sm 1 3 (.tuple (own.map PyData.str)) := by
      refine sm_tup (M := 1) (by rw [List.length_map]; have := o.l2; omega) ?_ (fun d hd => ?_) (by rw [List.length_map]; have := o.l2; omega)
      · cases own <;> rfl
      · obtain ⟨z, hz, rfl⟩ := List.mem_map.mp hd
        exact sm_str (LQ_o (o.m z hz))
    have e0 : cq (.str "all") = true := by decide +kernel
    have sg := hg.2
    have sb := hb.2.1
    have n1 := so.w
    have n2 := sg.w
    have n3 := sb.w
    have p1 := so.p
    have p2 := sg.p
    have p3 := sb.p
    have k1 : bG 1 = 36 := rfl
    have k2 : bB 1 = 39 := rfl
    refine ⟨?_, ?_, ?_⟩
    · show (decide (4 ≤ 4) && (!false && cqAll [.str "all", .tuple (own.map PyData.str), g, b])) = true
      simp only [cqAll, e0, so.c, sg.c, sb.c]
      rfl
    · simp only [PyData.depth, PyData.depthAll] at p1 ⊢
      omega
    · simp only [nn, nnAll] at n1 ⊢
      omega
end
section
variable {P : Program} {w : World} {K : PySem.W.Frag} {mg : Str → Option Value} {base : Heap}
theorem ok_al {f : Addr} {fd : FuncData} (F : Fun K "_law_all" "_law_all" sAl f fd)
    (Ow : Fnc P w K mg base CX0 3 "_law_own_drawn" ["_law_creel_here", "_law_parts_here"] spOwn) (Gu : Fnc P w K mg base CX0 5 "_law_guard" ["_law_creel_here", "_law_parts_here", "_law_own", "_law_deep"] (spGu 1)) (Bo : Fnc P w K mg base CX0 6 "_law_body" ["_law_creel_here", "_law_parts_here", "_law_own", "_law_deep"] (spBo 1)) :
    FnOk P w K mg base CX0 7 f fd ["_law_creel_here", "_law_parts_here"] spAl := by
  refine F.ok scAl (fun vs H Q E h => ?_) (fun cdv A outer s H vs Q E hr h => ?_)
  · obtain ⟨a, l, y, c, ps, qs, rs, rfl, _⟩ := h
    rfl
  · obtain ⟨a, l, y, c, ps, qs, rs, rfl, D, hc, q⟩ := h
    refine ⟨_, pss_cons (ps_set (i := 2) scAl.nd rfl (.inl rfl) (pe_fnc Ow hr (by omega) (by rfl) pass0 (pa_cons (pv 0) (pa_cons (pv 1) pa_nil))))
      (pss_one (ps_ret (pe_tup (pa_cons pe_str (pa_cons (pv 2) (pa_cons (pe_fnc Gu hr (by omega) (by rfl) pass0 (pa_cons (pv 0) (pa_cons (pv 1) (pa_cons (pv 2) (pa_cons pe_int pa_nil)))))
        (pa_cons (pe_fnc Bo hr (by omega) (by rfl) pass0 (pa_cons (pv 0) (pa_cons (pv 1) (pa_cons (pv 2) (pa_cons pe_int pa_nil))))) pa_nil))))))), ?_⟩
    have k1 : kG 1 = 25 := rfl
    have k2 : kB 1 = 54 := rfl
    refine ⟨.ref a, rfl, .ref l, rfl, ?_⟩
    (first | refine (⟨a, l, y, c, ps, qs, rs, rfl, D, by omega, fun x own c1 H1 ow yo C1 l1 g1 => ?_⟩) | (show tNil _ _ _; unfold tNil; refine (⟨a, l, y, c, ps, qs, rs, rfl, D, by omega, fun x own c1 H1 ow yo C1 l1 g1 => ?_⟩)) | ((try unfold tCons); (try unfold tNil); (try unfold tC); refine (⟨a, l, y, c, ps, qs, rs, rfl, D, by omega, fun x own c1 H1 ow yo C1 l1 g1 => ?_⟩)))
    have D1 := D.grw g1 C1
    refine ⟨x, rfl, .ref a, rfl, .ref l, rfl, x, rfl, ?_⟩
    (first | refine (⟨a, l, y, c1, ps, qs, rs, own, x, rfl, D1, by omega, yo, ow, fun v2 d2 c2 H2 wd2 s2 C2 l2 g2 => ?_⟩) | (show tNil _ _ _; unfold tNil; refine (⟨a, l, y, c1, ps, qs, rs, own, x, rfl, D1, by omega, yo, ow, fun v2 d2 c2 H2 wd2 s2 C2 l2 g2 => ?_⟩)) | ((try unfold tCons); (try unfold tNil); (try unfold tC); refine (⟨a, l, y, c1, ps, qs, rs, own, x, rfl, D1, by omega, yo, ow, fun v2 d2 c2 H2 wd2 s2 C2 l2 g2 => ?_⟩)))
    have D2 := D1.grw g2 C2
    have yo2 := Txts.grw C1 g2 yo
    refine ⟨.ref a, rfl, .ref l, rfl, x, rfl, ?_⟩
    (first | refine (⟨a, l, y, c2, ps, qs, rs, own, x, rfl, D2, by omega, yo2, ow.e, fun v3 d3 c3 H3 wd3 s3 C3 l3 g3 => ?_⟩) | (show tNil _ _ _; unfold tNil; refine (⟨a, l, y, c2, ps, qs, rs, own, x, rfl, D2, by omega, yo2, ow.e, fun v3 d3 c3 H3 wd3 s3 C3 l3 g3 => ?_⟩)) | ((try unfold tCons); (try unfold tNil); (try unfold tC); refine (⟨a, l, y, c2, ps, qs, rs, own, x, rfl, D2, by omega, yo2, ow.e, fun v3 d3 c3 H3 wd3 s3 C3 l3 g3 => ?_⟩)))
    have yo3 := Txts.grw C2 g3 yo2
    have s23 := Shw.grw C2 g3 (cq_gd _ wd2.2.c).2.1 s2
    refine ⟨le_line (by simp), fun t nt => ?_⟩
    have w4 := same_upd (p := t) (o := .tup [.str "all", x, v2, v3]) nt
    obtain ⟨bx, rfl, ex⟩ := Txts.same yo3 w4
    exact q _ (.tuple [.str "all", .tuple (own.map PyData.str), d2, d3]) c3 _ (all_ok ow wd2 wd3) (.tup upd_same (.cons (.str _) (.cons (.tup ex (shw_strs own)) (.cons (Shw.same s23 w4) (.cons (Shw.same s3 w4) .nil))))) (C3.same w4) (by omega) (((g1.trans g2).trans g3).trans (Grw.of w4))
end
/-! _law_claim -/
abbrev sCl : Stmt := topS 61
abbrev nCl : List Str := ["_law_creel_here", "_law_parts_here", "_law_deep", "_law_way", "_law_some", "_law_op", "_law_turn"]
theorem scCl : FnScope nCl ["_law_creel_here", "_law_parts_here", "_law_deep"] (defScope sCl) := ⟨rfl, rfl, rfl, by decide +kernel, rfl, by decide +kernel, by decide +kernel⟩
def kC : Nat → Nat
  | 0 => 18
  | n + 1 => 3 * kC n + 90
def bC : Nat → Nat
  | 0 => 13
  | n + 1 => 3 * bC n + 80
def mC : Nat → Nat
  | 0 => 0
  | n + 1 => n + 2
def clW (ps : List (Str × Str)) (qs rs : List Str) (n : Nat) (d : PyData) : Prop := (∀ m, mC n ≤ m → jf ps qs rs (m + 1) .form [] d = true) ∧ Sm (2 * n + 3) (bC n) d
def spCl (n : Nat) : Sp := fun vs H Q _ => ∃ (a l : Addr) (y c : Int) (ps : List (Str × Str)) (qs rs : List Str), vs = [.ref a, .ref l, .int n] ∧ Dw H a l y c ps qs rs ∧ c + kC n ≤ 700000 ∧ Drw a y c (kC n) (clW ps qs rs n) H Q
def clR : TS := fun Dn σ H => ∃ (a l : Addr) (y c n r : Int) (ps : List (Str × Str)) (qs rs : List Str), σ = [some (.ref a), some (.ref l), some (.int n), some (.int r), none, none, none] ∧ Dw H a l y c ps qs rs ∧ c ≤ 800000 ∧
  Drw a y c 17 (clW ps qs rs 0) H Dn.rt
section
variable {P : Program} {w : World} {K : PySem.W.Frag} {mg : Str → Option Value} {base : Heap}
theorem cl_tail {f : Addr} {cdv : Value} {A : Around} {outer : List Env} {s : Shared} {H0 : Hp} {E : XK} {k : Nat} (hr : Room k (A.deeper (envOfC "_law_claim" (defScope sCl) s.heap.objs.size f cdv))) (hk : 5 ≤ k)
    (On : Fnc P w K mg base CX0 2 "_law_one_of" ["_law_creel_here", "_law_items"] spOne) (Bo : Fnc P w K mg base CX0 5 "_law_body" ["_law_creel_here", "_law_parts_here", "_law_own", "_law_deep"] (spBo 0)) (Pl : Fnc P w K mg base CX0 3 "_law_place" ["_law_creel_here", "_law_parts_here", "_law_own"] spPlc) :
    PSs (cxOf CX0 P w K mg base nCl "_law_claim" (defScope sCl) f cdv A outer s H0 E).nox ((defBody sCl).drop 4) clR := by
  refine pss_imp (pss_cons (ps_if (pt_cmpR op_eq (pv 3) pe_int (nomark _)) (pss_one (ps_ret (pe_fnc Bo hr (by omega) (by rfl) pass0 (pa_cons (pv 0) (pa_cons (pv 1) (pa_cons (pe_tup pa_nil) (pa_cons pe_int pa_nil))))))) pss_nil)
    (pss_cons (ps_set (i := 5) scCl.nd rfl (.inl rfl) (pe_fnc On hr (by omega) (by rfl) pass0 (pa_cons (pv 0) (pa_cons (pe_lst (pa_cons pe_str (pa_cons pe_str (pa_cons pe_str pa_nil)))) pa_nil))))
    (pss_one (ps_ret (pe_tup (pa_cons pe_str (pa_cons (pv 5) (pa_cons (pe_fnc Pl hr (by omega) (by rfl) pass0 (pa_cons (pv 0) (pa_cons (pv 1) (pa_cons (pe_tup pa_nil) pa_nil)))) (pa_cons (pe_fnc Pl hr (by omega) (by rfl) pass0 (pa_cons (pv 0) (pa_cons (pv 1) (pa_cons (pe_tup pa_nil) pa_nil)))) pa_nil))))))))) ?_
  rintro Dn σ H ⟨a, l, y, c, n, r, ps, qs, rs, rfl, D, hc, q⟩
  have k0 : kB 0 = 17 := rfl
  refine ⟨.int r, rfl, rfl, _, rfl, ite2 (fun _ => ?_) (fun _ => ?_)⟩
  · refine ⟨.ref a, rfl, .ref l, rfl, le_line (by simp), fun t nt => ?_⟩
    have w1 := same_upd (p := t) (o := .tup []) nt
    (first | refine (⟨a, l, y, c, ps, qs, rs, [], .ref t, rfl, D.same w1, by omega, ⟨t, rfl, upd_same⟩, own_nil, fun v d c' H' wd sd C' l' g' => ?_⟩) | (show tNil _ _ _; unfold tNil; refine (⟨a, l, y, c, ps, qs, rs, [], .ref t, rfl, D.same w1, by omega, ⟨t, rfl, upd_same⟩, own_nil, fun v d c' H' wd sd C' l' g' => ?_⟩)) | ((try unfold tCons); (try unfold tNil); (try unfold tC); refine (⟨a, l, y, c, ps, qs, rs, [], .ref t, rfl, D.same w1, by omega, ⟨t, rfl, upd_same⟩, own_nil, fun v d c' H' wd sd C' l' g' => ?_⟩)))
    exact q v d c' H' ⟨fun m _ => wd.2.2 rfl m, wd.2.1.up (by decide) (Nat.le_refl _)⟩ sd C' l' ((Grw.of w1).trans g')
  · refine ⟨.ref a, rfl, le_line (by simp), fun r1 n1 => ?_⟩
    have w1 := same_upd (p := r1) (o := .lst ((["<=", "<", "=="] : List Str).map V.str)) n1
    (first | refine (use_oneS (zs := ["<=", "<", "=="]) (D.cr.same w1) (by omega) upd_same (D.cr.ne n1) (by decide) (by decide) fun z c2 H2 hz C2 l2 g2 => ?_) | (show tNil _ _ _; unfold tNil; refine (use_oneS (zs := ["<=", "<", "=="]) (D.cr.same w1) (by omega) upd_same (D.cr.ne n1) (by decide) (by decide) fun z c2 H2 hz C2 l2 g2 => ?_)) | ((try unfold tCons); (try unfold tNil); (try unfold tC); refine (use_oneS (zs := ["<=", "<", "=="]) (D.cr.same w1) (by omega) upd_same (D.cr.ne n1) (by decide) (by decide) fun z c2 H2 hz C2 l2 g2 => ?_)))
    have G2 := (Grw.of w1).trans g2
    have D2 := D.grw G2 C2
    refine ⟨.str z, rfl, .ref a, rfl, .ref l, rfl, le_line (by simp), fun t3 nt3 => ?_⟩
    have w3 := same_upd (p := t3) (o := .tup []) nt3
    (first | refine (⟨a, l, y, c2, ps, qs, rs, [], .ref t3, rfl, D2.same w3, by omega, ⟨t3, rfl, upd_same⟩, by decide, fun v4 d4 c4 H4 wd4 s4 C4 l4 g4 => ?_⟩) | (show tNil _ _ _; unfold tNil; refine (⟨a, l, y, c2, ps, qs, rs, [], .ref t3, rfl, D2.same w3, by omega, ⟨t3, rfl, upd_same⟩, by decide, fun v4 d4 c4 H4 wd4 s4 C4 l4 g4 => ?_⟩)) | ((try unfold tCons); (try unfold tNil); (try unfold tC); refine (⟨a, l, y, c2, ps, qs, rs, [], .ref t3, rfl, D2.same w3, by omega, ⟨t3, rfl, upd_same⟩, by decide, fun v4 d4 c4 H4 wd4 s4 C4 l4 g4 => ?_⟩)))
    have o4 := plc_ok D.gp (fun z h => by cases h) wd4
    have G4 := (G2.trans (Grw.of w3)).trans g4
    have D4 := D.grw G4 C4
    refine ⟨.ref a, rfl, .ref l, rfl, le_line (by simp), fun t5 nt5 => ?_⟩
    have w5 := same_upd (p := t5) (o := .tup []) nt5
    (first | refine (⟨a, l, y, c4, ps, qs, rs, [], .ref t5, rfl, D4.same w5, by omega, ⟨t5, rfl, upd_same⟩, by decide, fun v6 d6 c6 H6 wd6 s6 C6 l6 g6 => ?_⟩) | (show tNil _ _ _; unfold tNil; refine (⟨a, l, y, c4, ps, qs, rs, [], .ref t5, rfl, D4.same w5, by omega, ⟨t5, rfl, upd_same⟩, by decide, fun v6 d6 c6 H6 wd6 s6 C6 l6 g6 => ?_⟩)) | ((try unfold tCons); (try unfold tNil); (try unfold tC); refine (⟨a, l, y, c4, ps, qs, rs, [], .ref t5, rfl, D4.same w5, by omega, ⟨t5, rfl, upd_same⟩, by decide, fun v6 d6 c6 H6 wd6 s6 C6 l6 g6 => ?_⟩)))
    have o6 := plc_ok D.gp (fun z h => by cases h) wd6
    have s46 := Shw.grw (D4.same w5).cr g6 (cq_gd _ o4.2.c).2.1 (Shw.same s4 w5)
    refine ⟨le_line (by simp), fun t nt => ?_⟩
    have w7 := same_upd (p := t) (o := .tup [.str "pos", .str z, v4, v6]) nt
    obtain ⟨h1, h2⟩ := op_good hz
    refine q _ (.tuple [.str "pos", .str z, d4, d6]) c6 _ ⟨fun m _ => ?_, (four_sm (LQ_c (by decide)) h2 (o4.2.up (Nat.le_refl _) (by decide : 3 ≤ 5)) (o6.2.up (Nat.le_refl _) (by decide))).up (by decide) (by decide)⟩ (.tup upd_same (.cons (.str _) (.cons (.str z) (.cons (Shw.same s46 w7) (.cons (Shw.same s6 w7) .nil))))) (C6.same w7) (by omega) (((G4.trans (Grw.of w5)).trans g6).trans (Grw.of w7))
    show (isOp (.str z) && (isPos ps qs rs [] d4 && isPos ps qs rs [] d6)) = true
    rw [h1, o4.1, o6.1]
    rfl
end
end K03

set_option autoImplicit false
set_option maxRecDepth 100000
set_option maxHeartbeats 4000000
/-! claims drawn: the def, by depth -/
namespace K03
open PySem PySem.Spec PyProof.Rows L2 KX
section
variable {ps : List (Str × Str)} {qs rs own : List Str}
theorem not_sm {D M : Nat} {d : PyData} (h : Sm D M d) : Sm (D + 1) (2 + M) (.tuple [.str "not", d]) := by
  refine ⟨?_, ?_, ?_⟩
  · have e2 : cq (.str "not") = true := by decide +kernel
    show (decide (2 ≤ 4) && (!false && cqAll [.str "not", d])) = true
    simp only [cqAll, e2, h.c]
    rfl
  · have := h.p
    simp only [PyData.depth, PyData.depthAll]
    omega
  · have := h.w
    simp only [nn, nnAll]
    omega
end
section
variable {P : Program} {w : World} {K : PySem.W.Frag} {mg : Str → Option Value} {base : Heap}
theorem ok_cl {f : Addr} {fd : FuncData} (F : Fun K "_law_claim" "_law_claim" sCl f fd) (hb : Binds K fd ["_law_creel_here", "_law_parts_here", "_law_deep"] []) (hm : mg "_law_claim" = some (.ref f)) (B : Free mg)
    (Fi : Fnc P w K mg base CX0 1 "_law_fish" ["_law_creel_here", "_law_total"] spFish) (On : Fnc P w K mg base CX0 2 "_law_one_of" ["_law_creel_here", "_law_items"] spOne) (Bo : Fnc P w K mg base CX0 5 "_law_body" ["_law_creel_here", "_law_parts_here", "_law_own", "_law_deep"] (spBo 0)) (Pl : Fnc P w K mg base CX0 3 "_law_place" ["_law_creel_here", "_law_parts_here", "_law_own"] spPlc)
    (Al : Fnc P w K mg base CX0 7 "_law_all" ["_law_creel_here", "_law_parts_here"] spAl) :
    ∀ n, FnOk P w K mg base CX0 (8 + n) f fd ["_law_creel_here", "_law_parts_here", "_law_deep"] (spCl n)
  | 0 => by
    show FnOk P w K mg base CX0 (7 + 1) f fd _ _
    refine F.ok scCl (fun vs H Q E h => ?_) (fun cdv A outer s H vs Q E hr h => ?_)
    · obtain ⟨a, l, y, c, ps, qs, rs, rfl, _⟩ := h
      rfl
    · obtain ⟨a, l, y, c, ps, qs, rs, rfl, D, hc, q⟩ := h
      refine ⟨_, pss_cons (ps_set (i := 3) scCl.nd rfl (.inl rfl) (pe_ifExp (pt_cmpR op_gt (pv 2) pe_int (nomark _)) (pe_fnc Fi hr (by omega) (by rfl) pass0 (pa_cons (pv 0) (pa_cons pe_int pa_nil))) (pe_op op_add pe_int (pe_fnc Fi hr (by omega) (by rfl) pass0 (pa_cons (pv 0) (pa_cons pe_int pa_nil))))))
        (pss_cons (ps_if (pt_cmpR op_eq (pv 3) pe_int (nomark _)) (pss_one ps_never) pss_nil)
        (pss_cons (ps_if (pt_cmpR op_lt (pv 3) pe_int (nomark _)) (pss_cons ps_never (pss_one ps_never)) pss_nil)
        (pss_cons (ps_if (pt_cmpR op_lt (pv 3) pe_int (nomark _)) (pss_one ps_never) pss_nil) (cl_tail hr (by omega) On Bo Pl)))), ?_⟩
      have hc : c + (18 : Nat) ≤ 700000 := hc
      refine ⟨.int 0, rfl, _, _, rfl, rfl, _, rfl, iteF' (by decide) ⟨.ref a, rfl, ?_⟩⟩
      (first | refine (use_fish (t := 2) D.cr (by omega) (by decide) (by decide) fun r c1 H1 r0 r1 C1 l1 g1 => ?_) | (show tNil _ _ _; unfold tNil; refine (use_fish (t := 2) D.cr (by omega) (by decide) (by decide) fun r c1 H1 r0 r1 C1 l1 g1 => ?_)) | ((try unfold tCons); (try unfold tNil); (try unfold tC); refine (use_fish (t := 2) D.cr (by omega) (by decide) (by decide) fun r c1 H1 r0 r1 C1 l1 g1 => ?_)))
      have D1 := D.grw g1 C1
      refine ⟨6, r, rfl, rfl, ?_⟩
      refine ⟨.int (6 + r), rfl, rfl, _, rfl, iteF' (decide_eq_false fun k => by have := V.int.inj k; omega) ⟨.int (6 + r), rfl, _, _, rfl, rfl, _, rfl, iteF' (decide_eq_false (by show ¬ (6 + r < 3); omega)) ⟨.int (6 + r), rfl, _, _, rfl, rfl, _, rfl, iteF' (decide_eq_false (by show ¬ (6 + r < 6); omega)) ?_⟩⟩⟩
      exact ⟨a, l, y, c1, 0, 6 + r, ps, qs, rs, rfl, D1, by omega, fun v d c' H' wd s C' l' G' => q v d c' H' wd s C' (by show c' ≤ c + (18 : Nat); omega) (g1.trans G')⟩
  | n + 1 => by
    have ih := ok_cl F hb hm B Fi On Bo Pl Al n
    have Rc : Fnc P w K mg base CX0 (8 + n) "_law_claim" ["_law_creel_here", "_law_parts_here", "_law_deep"] (spCl n) := ⟨⟨f, fd, ih, hb, hm, F.kp⟩⟩
    show FnOk P w K mg base CX0 ((8 + n) + 1) f fd _ _
    refine F.ok scCl (fun vs H Q E h => ?_) (fun cdv A outer s H vs Q E hr h => ?_)
    · obtain ⟨a, l, y, c, ps, qs, rs, rfl, _⟩ := h
      rfl
    · obtain ⟨a, l, y, c, ps, qs, rs, rfl, D, hc, q⟩ := h
      refine ⟨_, pss_cons (ps_set (i := 3) scCl.nd rfl (.inl rfl) (pe_ifExp (pt_cmpR op_gt (pv 2) pe_int (nomark _)) (pe_fnc Fi hr (by omega) (by rfl) pass0 (pa_cons (pv 0) (pa_cons pe_int pa_nil))) (pe_op op_add pe_int (pe_fnc Fi hr (by omega) (by rfl) pass0 (pa_cons (pv 0) (pa_cons pe_int pa_nil))))))
        (pss_cons (ps_if (pt_cmpR op_eq (pv 3) pe_int (nomark _)) (pss_one (ps_ret (pe_tup (pa_cons pe_str (pa_cons (pe_fnc Rc hr (by omega) (by rfl) pass0 (pa_cons (pv 0) (pa_cons (pv 1) (pa_cons (pe_op op_sub (pv 2) pe_int) pa_nil)))) pa_nil))))) pss_nil)
        (pss_cons (ps_if (pt_cmpR op_lt (pv 3) pe_int (nomark _))
          (pss_cons (ps_setLc (i := 4) (own := [("_law_turn", 6)]) (g := gName 6) (tt := tYes) rfl scCl.nd rfl rfl (sw_true rfl rfl rfl (by decide +kernel)) (pi_range1 (by rfl) B.range (pa_cons (pe_fnc Fi hr (by omega) (by rfl) pass0 (pa_cons (pv 0) (pa_cons pe_int pa_nil))) pa_nil)) (blkOk_by (N := nCl) (sc := defScope sCl) (by decide +kernel))
              (fun _ _ _ _ _ => pg_name (i := 6) scCl.nd rfl (Or.inl rfl) (Or.inr rfl)) (fun _ _ _ _ _ => pts_nil) (fun _ _ _ _ _ => pe_fnc Rc hr (by omega) (by rfl) pass0 (pa_cons (pv 0) (pa_cons (pv 1) (pa_cons (pe_op op_sub (pv 2) pe_int) pa_nil)))))
            (pss_one (ps_ret (pe_tup (pa_cons (pe_ix ix_list (pe_lst (pa_cons pe_str (pa_cons pe_str pa_nil))) (pe_op op_sub (pv 3) pe_int) (fun _ _ => rfl))
              (pa_cons (pe_callTy call_tuple_of (by rfl) B.tuple (by decide +kernel) (pa_cons (pv 4) pa_nil)) pa_nil)))))) pss_nil)
        (pss_cons (ps_if (pt_cmpR op_lt (pv 3) pe_int (nomark _)) (pss_one (ps_ret (pe_fnc Al hr (by omega) (by rfl) pass0 (pa_cons (pv 0) (pa_cons (pv 1) pa_nil))))) pss_nil) (cl_tail hr (by omega) On Bo Pl)))), ?_⟩
      have ek : kC (n + 1) = 3 * kC n + 90 := rfl
      have eb : bC (n + 1) = 3 * bC n + 80 := rfl
      have em : mC (n + 1) = n + 2 := rfl
      have mle : mC n ≤ n + 1 := by cases n <;> simp [mC]
      have en1 : ((n + 1 : Nat) : Int) - 1 = (n : Int) := by omega
      refine ⟨.int ((n + 1 : Nat) : Int), rfl, _, _, rfl, rfl, _, rfl, iteT' (decide_eq_true (by show (0 : Int) < _; omega)) ⟨.ref a, rfl, ?_⟩⟩
      (first | refine (use_fish (t := 8) D.cr (by omega) (by decide) (by decide) fun r c1 H1 r0 r1 C1 l1 g1 => ?_) | (show tNil _ _ _; unfold tNil; refine (use_fish (t := 8) D.cr (by omega) (by decide) (by decide) fun r c1 H1 r0 r1 C1 l1 g1 => ?_)) | ((try unfold tCons); (try unfold tNil); (try unfold tC); refine (use_fish (t := 8) D.cr (by omega) (by decide) (by decide) fun r c1 H1 r0 r1 C1 l1 g1 => ?_)))
      have D1 := D.grw g1 C1
      refine ⟨.int r, rfl, rfl, _, rfl, ite2 (fun _ => ?_) (fun h0 => ?_)⟩
      · refine ⟨.ref a, rfl, .ref l, rfl, .int ((n + 1 : Nat) : Int), rfl, _, _, rfl, rfl, ?_⟩
        (first | refine (⟨a, l, y, c1, ps, qs, rs, (by show [V.ref a, V.ref l, V.int (((n + 1 : Nat) : Int) - 1)] = _; rw [en1]), D1, by omega, fun v d c2 H2 wd sd C2 l2 g2 => ?_⟩) | (show tNil _ _ _; unfold tNil; refine (⟨a, l, y, c1, ps, qs, rs, (by show [V.ref a, V.ref l, V.int (((n + 1 : Nat) : Int) - 1)] = _; rw [en1]), D1, by omega, fun v d c2 H2 wd sd C2 l2 g2 => ?_⟩)) | ((try unfold tCons); (try unfold tNil); (try unfold tC); refine (⟨a, l, y, c1, ps, qs, rs, (by show [V.ref a, V.ref l, V.int (((n + 1 : Nat) : Int) - 1)] = _; rw [en1]), D1, by omega, fun v d c2 H2 wd sd C2 l2 g2 => ?_⟩)))
        refine ⟨le_line (by simp), fun t nt => ?_⟩
        have w3 := same_upd (p := t) (o := .tup [.str "not", v]) nt
        refine q _ (.tuple [.str "not", d]) c2 _ ⟨fun m hm => ?_, (not_sm wd.2).up (by omega) (by omega)⟩ (.tup upd_same (.cons (.str _) (.cons (Shw.same sd w3) .nil))) (C2.same w3) (by omega) ((g1.trans g2).trans (Grw.of w3))
        obtain ⟨m', rfl⟩ : ∃ m', m = m' + 1 := ⟨m - 1, by omega⟩
        rw [jf_fnot]
        exact wd.1 m' (by omega)
      · refine ⟨.int r, rfl, _, _, rfl, rfl, _, rfl, ite2 (fun h3 => ?_) (fun _ => ?_)⟩
        · have h3 : r < 3 := of_decide_eq_true h3
          have h0 : r ≠ 0 := fun k => h0 (decide_eq_true (congrArg V.int k))
          refine ⟨.ref a, rfl, ?_⟩
          (first | refine (use_fish (t := 4) C1 (by omega) (by decide) (by decide) fun r2 c2 H2 r20 r21 C2 l2 g2 => ?_) | (show tNil _ _ _; unfold tNil; refine (use_fish (t := 4) C1 (by omega) (by decide) (by decide) fun r2 c2 H2 r20 r21 C2 l2 g2 => ?_)) | ((try unfold tCons); (try unfold tNil); (try unfold tC); refine (use_fish (t := 4) C1 (by omega) (by decide) (by decide) fun r2 c2 H2 r20 r21 C2 l2 g2 => ?_)))
          have D2 := D1.grw g2 C2
          have G2 := g1.trans g2
          refine ⟨r2, rfl, by omega, by omega, fun L nL => ?_⟩
          have lr : r2.toNat ≤ 3 := by omega
          have kk : r2.toNat * kC n ≤ 3 * kC n := Nat.mul_le_mul_right _ lr
          refine lc_drw (k := kC n) (W := clW ps qs rs n) (fun d h => h.2.c) C2 nL (by omega) (fun m H' c' hm G' C' l' Q' k => ?_) (fun xs ds c' H' G' C' l' hL sh ld hw => ?_)
          · have mk : m * kC n ≤ 2 * kC n := Nat.mul_le_mul_right _ (by omega)
            refine ⟨rfl, .ref a, rfl, .ref l, rfl, .int ((n + 1 : Nat) : Int), rfl, _, _, rfl, rfl, ?_⟩
            refine ⟨a, l, y, c', ps, qs, rs, ?_, D2.grw G' C', by omega, k⟩
            show [V.ref a, V.ref l, V.int (((n + 1 : Nat) : Int) - 1)] = _
            rw [en1]
          · refine ⟨le_line (by simp), fun r4 n4 => ⟨.int r, rfl, _, _, rfl, rfl, ?_⟩⟩
            have w1 := same_upd (p := r4) (o := .lst [.str "and", .str "or"]) n4
            obtain ⟨z, hz, ez⟩ : ∃ z : Str, (z = "and" ∨ z = "or") ∧ atI [V.str "and", .str "or"] (r - 1) = some (.str z) := by
              rcases (by omega : r = 1 ∨ r = 2) with rfl | rfl
              · exact ⟨"and", .inl rfl, by decide +kernel⟩
              · exact ⟨"or", .inr rfl, by decide +kernel⟩
            refine ⟨r4, _, r - 1, .str z, rfl, rfl, SqL.of upd_same, ez, .ref L, rfl, L, xs, rfl, .inl ⟨SqL.of (w1 _ _ hL), fun t nt => ⟨le_line (by simp), fun t2 nt2 => ?_⟩⟩⟩
            have w2 := same_upd (p := t) (o := .tup xs) nt
            have w3 := same_upd (p := t2) (o := .tup [.str z, .ref t]) nt2
            refine q _ (.tuple [.str z, .tuple ds]) c' _ ⟨fun m hm => ?_, ?_⟩ (.tup upd_same (.cons (.str z) (.cons (.tup (w3 _ _ upd_same) (ShwAll.same sh (w1.trans (w2.trans w3)))) .nil))) (C'.same (w1.trans (w2.trans w3))) (by omega) ((G2.trans G').trans (Grw.of (w1.trans (w2.trans w3))))
            · obtain ⟨m', rfl⟩ : ∃ m', m = m' + 1 := ⟨m - 1, by omega⟩
              exact jf_and hz fun d hd => (hw d hd).1 m' (by omega)
            · have z := and_sm (z := z) (by rcases hz with rfl | rfl <;> decide +kernel) (by omega) (head_tup fun d hd => jf_tup ((hw d hd).1 _ (Nat.le_refl _))) fun d hd => (hw d hd).2
              refine z.up (by omega) ?_
              rw [eb, ld]
              have : r2.toNat * bC n ≤ 3 * bC n := Nat.mul_le_mul_right _ lr
              omega
        · refine ⟨.int r, rfl, _, _, rfl, rfl, _, rfl, ite2 (fun _ => ?_) (fun _ => ?_)⟩
          · refine ⟨.ref a, rfl, .ref l, rfl, ?_⟩
            (first | refine (⟨a, l, y, c1, ps, qs, rs, rfl, D1, by omega, fun v d c2 H2 wd sd C2 l2 g2 => ?_⟩) | (show tNil _ _ _; unfold tNil; refine (⟨a, l, y, c1, ps, qs, rs, rfl, D1, by omega, fun v d c2 H2 wd sd C2 l2 g2 => ?_⟩)) | ((try unfold tCons); (try unfold tNil); (try unfold tC); refine (⟨a, l, y, c1, ps, qs, rs, rfl, D1, by omega, fun v d c2 H2 wd sd C2 l2 g2 => ?_⟩)))
            exact q v d c2 H2 ⟨fun m hm => wd.1 m (by omega), wd.2.up (by omega) (by omega)⟩ sd C2 (by omega) (g1.trans g2)
          · refine ⟨a, l, y, c1, _, r, ps, qs, rs, rfl, D1, by omega, fun v d c' H' wd s C' l' G' => q v d c' H' ⟨fun m _ => wd.1 m (Nat.zero_le _), wd.2.up (by omega) ?_⟩ s C' (by omega) (g1.trans G')⟩
            show 13 ≤ _
            rw [eb]
            omega
end
end K03

set_option autoImplicit false
set_option maxRecDepth 100000
set_option maxHeartbeats 4000000
/-! the law's judge of own names -/
namespace K03
open PySem PySem.Spec PyProof.Rows L2 KX
abbrev sIo : Stmt := topS 62
abbrev nIo : List Str := ["_law_parts_here", "_law_value", "_law_one"]
theorem scIo : FnScope nIo ["_law_parts_here", "_law_value"] (defScope sIo) := ⟨rfl, rfl, rfl, by decide +kernel, rfl, by decide +kernel, by decide +kernel⟩
theorem inV_12 (n : Nat) : inV (.int n) [.int 1, .int 2] = (decide (n = 1) || decide (n = 2)) := by
  have e : ∀ a b : Int, eqV (.int a) (.int b) = decide (a = b) := fun a b => by first | rfl | simp [eqV]
  unfold inV
  rw [List.any_cons, List.any_cons, List.any_nil, e, e, Bool.or_false]
  congr 1
  · exact decide_eq_decide.mpr ⟨fun h => by omega, fun h => by omega⟩
  · exact decide_eq_decide.mpr ⟨fun h => by omega, fun h => by omega⟩
theorem allStr_is (ds : List PyData) : allStr ds = ds.all isStrP := by
  induction ds with
  | nil => rfl
  | cons d ds ih => cases d <;> first | rfl | exact ih
theorem strs_all : ∀ {ds : List PyData}, allStr ds = true → ∃ zs : List Str, ds = zs.map PyData.str
  | [], _ => ⟨[], rfl⟩
  | .str z :: ds, h => by
    obtain ⟨zs, rfl⟩ := strs_all (ds := ds) h
    exact ⟨z :: zs, rfl⟩
theorem strs_of {H : Hp} : ∀ {ys : List V} {zs : List Str}, ShwAll H ys (zs.map PyData.str) → ys = zs.map V.str
  | _, [], .nil => rfl
  | _, z :: zs, .cons a r => by
    cases a
    rw [strs_of r]
    rfl
theorem empty_len {α β : Type} {xs : List α} {ys : List β} (h : xs.length = ys.length) : xs.isEmpty = ys.isEmpty := by
  cases xs with
  | nil => cases ys with
    | nil => rfl
    | cons => cases h
  | cons => cases ys with
    | nil => cases h
    | cons => rfl
def spIo : Sp := fun vs H Q _ => ∃ (l : Addr) (ps : List (Str × Str)) (qs rs : List Str) (v : V) (d : PyData), vs = [.ref l, v] ∧ PtAt H l ps qs rs ∧ ps.length ≤ 200 ∧ qs.length ≤ 200 ∧ rs.length ≤ 200 ∧ Shw H v d ∧ gd d = true ∧ ∀ H', Same H H' → Q (.bl (ownD ps qs rs d)) H'
section
variable {P : Program} {w : World} {K : PySem.W.Frag} {mg : Str → Option Value} {base : Heap}
theorem ok_io {f : Addr} {fd : FuncData} (F : Fun K "_law_is_own" "_law_is_own" sIo f fd) (B : Free mg) (Al : Fnc P w K mg base CX0 2 "_law_all_of" ["_law_parts_here"] spAll) : FnOk P w K mg base CX0 3 f fd ["_law_parts_here", "_law_value"] spIo := by
  refine F.ok scIo (fun vs H Q E h => ?_) (fun cdv A outer s H vs Q E hr h => ?_)
  · obtain ⟨l, ps, qs, rs, v, d, rfl, _⟩ := h
    rfl
  · obtain ⟨l, ps, qs, rs, v, d, rfl, pt, few1, few2, few3, sh, g, q⟩ := h
    refine ⟨_, pss_cons (ps_if (PW.pt (pw_or (pt_not (pt_val (pe_callB call_isi (by rfl) B.isinstance (by decide +kernel) (pa_cons (pv 1) (pa_cons (pe_bltn (v := .ty "tuple") (by rfl) B.tuple (by decide +kernel) rfl) pa_nil)))))
          (pw_or1 (pt_cmpR (r := rIn K true) op_notIn_seq (pe_callB call_len_seq (by rfl) B.len PySem.boot_len (pa_cons (pv 1) pa_nil)) (pe_tup (pa_cons pe_int (pa_cons pe_int pa_nil))) (by with_unfolding_all rfl)))))
        (pss_one (ps_ret pe_bl)) pss_nil)
      (pss_cons (ps_if (pt_cmpR (op_neNil hr.units) (pe_lc (own := [("_law_one", 2)]) (g := gName 2) rfl scIo.nd (pi_tup (pv 1)) (blkOk_by (N := nIo) (sc := defScope sIo) (by decide +kernel))
            (fun _ _ _ _ _ => pg_name (i := 2) scIo.nd rfl (Or.inl rfl)) (fun _ _ _ _ _ => pts_one (pt_not (pt_val (pe_callB (id := "isinstance") (r := rIsi K) call_isi (by rfl) B.isinstance (by decide +kernel) (pa_cons (pv 2) (pa_cons (pe_bltn (v := .ty "str") (by rfl) B.str (by decide +kernel) rfl) pa_nil))))))
            (fun _ _ _ _ _ => pv 2)) (pe_lst pa_nil) (nomark _))
        (pss_one (ps_ret pe_bl)) pss_nil)
      (pss_cons (ps_for PassesOwn.never rfl (pi_tup (pv 1)) (pg_name (i := 2) scIo.nd rfl (Or.inl rfl))
        (pss_one (ps_if (PW.pt (pw_or (pt_not (pt_chain op_lt op_lt pe_int (pe_callB call_len_str (by rfl) B.len PySem.boot_len (pa_cons (pv 2) pa_nil)) pe_int))
            (pw_or (pt_cmpR op_ne (pe_m1 PySem.F.slot_str_strip PySem.F.type_str_strip mt_stripChars (pv 2) pe_str) pe_str (nomark _))
            (pw_or1 (pt_cmpR (r := rIn K false) op_in_seq (pv 2) (pe_fnc Al hr (by omega) (by rfl) pass0 (pa_cons (pv 0) pa_nil)) (by with_unfolding_all rfl))))))
          (pss_one (ps_ret pe_bl)) pss_nil)))
      (pss_one (ps_ret (pe_cmpR op_eq (pe_lenWords (by rfl) B.len (by rfl) B.set (pv 1)) (pe_callB call_len_seq (by rfl) B.len PySem.boot_len (pa_cons (pv 1) pa_nil)) (nomark _)))))), ?_⟩
    refine ⟨v, rfl, v, .ty "tuple", _, _, isTup d, rfl, .ty _, shw_ty sh, kit_ty (kit_tup d), isTup d, rfl, ?_⟩
    cases sh with
    | non => exact q H (Same.refl H)
    | bl b => exact q H (Same.refl H)
    | int i => exact q H (Same.refl H)
    | str x => exact q H (Same.refl H)
    | lst e _ => exact q H (Same.refl H)
    | dct e => exact q H (Same.refl H)
    | @tup a xs ds e ha =>
      have ln := ShwAll.len ha
      simp only [gd, Bool.and_eq_true, decide_eq_true_eq] at g
      have q : ∀ H', Same H H' → Q (.bl (decide (ds.length = 1 ∨ ds.length = 2) && (allStr ds && ((ds.map txtD).all fun z => nameS z && !decide (z ∈ wordsOf ps qs rs)) && decide ((onceS (ds.map txtD)).length = ds.length)))) H' := q
      refine ⟨.ref a, rfl, a, xs, rfl, .inr (SqT.of e), le_line (by simp), fun tp ntp => ⟨tp, _, rfl, .inr (SqT.of upd_same), rfl, rfl, _, rfl, ?_⟩⟩
      have sm := same_upd (p := tp) (o := .tup [.int 1, .int 2]) ntp
      generalize upd H tp (.tup [.int 1, .int 2]) = H1 at sm ⊢
      have e' := sm _ _ e
      refine ite2 (fun e1 => ?_) (fun e1 => ?_)
      · have e1 : (!inV (.int (xs.length : Nat)) [.int 1, .int 2]) = true := e1
        rw [inV_12, ln] at e1
        have z := q H1 sm
        have en : decide (ds.length = 1 ∨ ds.length = 2) = false := by
          rw [Bool.decide_or]
          simpa using e1
        rw [en] at z
        exact z
      · have e1 : ¬ (!inV (.int (xs.length : Nat)) [.int 1, .int 2]) = true := e1
        rw [inV_12, ln] at e1
        have en : decide (ds.length = 1 ∨ ds.length = 2) = true := by
          rw [Bool.decide_or]
          cases h : (decide (ds.length = 1) || decide (ds.length = 2)) with
          | true => rfl
          | false => exact absurd (by rw [h]; rfl) e1
        have l2 : ds.length ≤ 2 := by have := of_decide_eq_true en; omega
        rw [en] at q
        simp only [Bool.true_and] at q
        refine ⟨.ref a, rfl, a, rfl, ⟨_, SqT.of e'⟩, fun D nD => ?_⟩
        refine lc_tupF (K := K) (fun d => !isStrP d) e' nD (by omega) (ShwAll.same ha sm) (fun x d H' QY QN hd sd s1 y n => ?_) (fun H2 ys s1 d1 sy => ?_)
        · refine ⟨rfl, x, rfl, x, .ty "str", _, _, isStrP d, rfl, .ty _, shw_ty sd, kit_ty (kit_strP d), isStrP d, rfl, ?_⟩
          cases e2 : isStrP d with
          | true => exact iteF (n (by rw [e2]; rfl) H' (Same.refl _))
          | false => exact iteT ⟨_, rfl, y (by rw [e2]; rfl) H' (Same.refl _)⟩
        · refine ⟨le_line (by simp), fun N nN => ?_⟩
          have s2 := same_upd (p := N) (o := .lst []) nN
          refine ⟨ys, ⟨D, N, rfl, rfl, .inl ⟨SqL.of (s2 _ _ d1), SqL.of upd_same⟩⟩, _, rfl, ?_⟩
          have ey : ys.isEmpty = allStr ds := by
            have l1 := ShwAll.len sy
            rw [empty_len l1, filter_all, allStr_is]
            simp only [Bool.not_not]
          rw [ey]
          have s12 := (sm.trans s1).trans s2
          generalize upd H2 N (.lst []) = H3 at s2 s12 ⊢
          cases e3 : allStr ds with
          | false =>
            have z := q _ s12
            rw [e3] at z
            exact iteT z
          | true =>
            rw [e3] at q
            simp only [Bool.true_and] at q
            obtain ⟨zs, rfl⟩ := strs_all e3
            have exs := strs_of ha
            subst exs
            rw [txt_map] at q
            have e4 := s12 _ _ e
            rw [List.length_map] at l2
            refine iteF ⟨.ref a, rfl, a, rfl, ⟨_, SqT.of e4⟩, ?_⟩
            refine for_tup (K := K) (a := a) (xs := zs.map V.str) (fun m σ H' => ∃ (x : Option V), σ = [some (.ref l), some (.ref a), x] ∧ Same H3 H' ∧ ∀ z ∈ zs.take m, (nameS z && !decide (z ∈ wordsOf ps qs rs)) = true) ⟨none, rfl, Same.refl _, fun z h => by cases h⟩ (fun m σ H' _ hP => ?_) (fun m x σ H' hm hP => ?_) (fun σ H' hP => ?_)
            · obtain ⟨x, _, t1, _⟩ := hP
              exact SqT.of (t1 _ _ e4)
            · obtain ⟨x0, rfl, t1, hz⟩ := hP
              rw [List.getElem?_map] at hm
              obtain ⟨z, hzm, rfl⟩ := Option.map_eq_some_iff.mp hm
              have memz := List.mem_of_getElem? hzm
              have gz := gdAll_mem g.2 (List.mem_map.mpr ⟨z, memz, rfl⟩)
              have lz : z.length ≤ 1000 := by
                simp only [gd, Bool.and_eq_true, decide_eq_true_eq] at gz
                exact gz.1
              have spl := name_split z
              have bad : (nameS z && !decide (z ∈ wordsOf ps qs rs)) = false → ∀ H'', Same H' H'' → Q (.bl false) H'' := fun hb H'' t2 => by
                have zq := q H'' ((s12.trans t1).trans t2)
                have en2 : (zs.all fun z => nameS z && !decide (z ∈ wordsOf ps qs rs)) = false := by
                  rw [← Bool.not_eq_true]
                  exact fun h => by
                    have := List.all_eq_true.mp h z memz
                    rw [hb] at this
                    cases this
                rw [en2] at zq
                exact zq
              refine ⟨.str z, rfl, z, rfl, Nat.le_trans lz (by decide), 0, _, rfl, rfl, _, rfl, ?_⟩
              have nope : (!nameS z) = true → ∀ H'', Same H' H'' → Q (.bl false) H'' := fun h => bad (by
                have : nameS z = false := by simpa using h
                rw [this]; rfl)
              refine ite2 (fun e1 => ?_) (fun e1 => ?_)
              · have h1 : (0 : Int) < z.length := of_decide_eq_true e1
                refine ⟨_, _, rfl, rfl, _, rfl, ?_⟩
                by_cases h2 : (z.length : Int) < 9
                · rw [decide_eq_true (show (0 : Int) < (z.length : Int) ∧ (z.length : Int) < 9 from ⟨h1, h2⟩)] at spl
                  rw [decide_eq_true h2]
                  refine ⟨.str z, rfl, ⟨z, rfl⟩, z, _, rfl, rfl, Nat.le_trans lz (by decide), rfl, _, rfl, ?_⟩
                  have ev : decide (V.str (Txt.stripChars z (Str.ofString "abcdefghijklmnopqrstuvwxyz")) = V.str (Str.ofString "")) = decide (Txt.stripChars z "abcdefghijklmnopqrstuvwxyz" = "") := decide_eq_decide.mpr ⟨fun k => V.str.inj k, fun k => congrArg V.str k⟩
                  rw [ev]
                  rw [Bool.not_true, Bool.false_or] at spl
                  rw [← spl]
                  cases e2 : (!nameS z) with
                  | true => exact iteT (nope e2 H' (Same.refl _))
                  | false =>
                    obtain ⟨v1, v2, v3, hl, y1, y2, y3⟩ := (pt.same s12).same t1
                    refine iteF ⟨.str z, rfl, .ref l, rfl, l, v1, v2, v3, ps, qs, rs, rfl, hl, y1, y2, y3, by omega, by omega, by omega, fun L1 H5 w2 e5 => ?_⟩
                    refine ⟨L1, _, rfl, .inl (SqL.of e5), rfl, flat_strs _, _, rfl, ?_⟩
                    have ei : (if false = true then !inV (.str z) ((wordsOf ps qs rs).map V.str) else inV (.str z) ((wordsOf ps qs rs).map V.str)) = decide (z ∈ wordsOf ps qs rs) := by rw [if_neg Bool.false_ne_true, inV_strs]
                    rw [ei]
                    cases e6 : decide (z ∈ wordsOf ps qs rs) with
                    | true => exact iteT (bad (by rw [e6]; exact Bool.and_false _) H5 w2)
                    | false =>
                      refine iteF ⟨_, rfl, t1.trans w2, fun z' hz' => ?_⟩
                      rw [List.take_add_one, hzm] at hz'
                      rcases List.mem_append.mp hz' with h | h
                      · exact hz z' h
                      · have : z' = z := by simpa using h
                        subst this
                        rw [e6]
                        have : nameS z' = true := by simpa using e2
                        rw [this]
                        rfl
                · rw [decide_eq_false (show ¬ ((0 : Int) < (z.length : Int) ∧ (z.length : Int) < 9) from fun k => h2 k.2)] at spl
                  rw [decide_eq_false h2]
                  exact iteT (nope spl H' (Same.refl _))
              · have h1 : ¬ (0 : Int) < z.length := fun k => e1 (decide_eq_true k)
                rw [decide_eq_false (show ¬ ((0 : Int) < (z.length : Int) ∧ (z.length : Int) < 9) from fun k => h1 k.1)] at spl
                exact ⟨_, rfl, iteT (nope spl H' (Same.refl _))⟩
            · obtain ⟨x0, rfl, t1, hz⟩ := hP
              rw [List.length_map, List.take_length] at hz
              have en2 : (zs.all fun z => nameS z && !decide (z ∈ wordsOf ps qs rs)) = true := List.all_eq_true.mpr hz
              rw [en2] at q
              have e5 := t1 _ _ e4
              refine ⟨.ref a, rfl, a, zs, rfl, .inr (SqT.of e5), by omega, .ref a, rfl, a, _, rfl, .inr (SqT.of e5), rfl, ?_⟩
              have zq := q _ (s12.trans t1)
              have c2 : decide (V.int (((once zs).length : Nat) : Int) = V.int (((zs.map V.str).length : Nat) : Int)) = decide ((onceS zs).length = (zs.map PyData.str).length) := decide_eq_decide.mpr (by
                rw [List.length_map, List.length_map]
                exact ⟨fun k => by have := V.int.inj k; exact Int.ofNat.inj this, fun k => congrArg V.int (congrArg Int.ofNat k)⟩)
              rw [c2]
              exact zq
end
end K03

set_option autoImplicit false
set_option maxRecDepth 100000
set_option maxHeartbeats 4000000
/-! the law's judge of claims: atoms over positions -/
namespace K03
open PySem PySem.Spec PyProof.Rows L2 KX
abbrev sFi : Stmt := topS 65
abbrev nFi : List Str := ["_law_parts_here", "_law_own", "_law_kind", "_law_value", "_law_word", "_law_size", "_law_odd_here", "_law_spots", "_law_mine", "_law_part", "_law_term"]
theorem scFi : FnScope nFi ["_law_parts_here", "_law_own", "_law_kind", "_law_value"] (defScope sFi) := ⟨rfl, rfl, rfl, by decide +kernel, rfl, by decide +kernel, by decide +kernel⟩
def kdS : Kd → Str
  | .form => "claim"
  | .guard => "guard"
  | .body => "body"
theorem lc_lstF {K : PySem.W.Frag} {a : Addr} {xs : List V} {ds : List PyData} {g : TG} {tt : TT} {te : TE} {vs : List Nat} {σ : L2.St} {H1 : Hp} {D : Addr} {Qd : Hp → Prop} (T : PyData → Bool) (hx : H1 a = some (.lst xs)) (n : H1 D = none) (few : xs.length ≤ 100000) (sh : ShwAll H1 xs ds)
    (step : ∀ (x : V) (d : PyData) (H' : Hp) (QY : VK) (QN : Hp → Prop), d ∈ ds → Shw H' x d → Same H1 H' → (T d = true → ∀ H4, Same H' H4 → QY x H4) → (T d = false → ∀ H4, Same H' H4 → QN H4) →
      g x (wipe σ vs) H' fun σ2 H2 => wipe σ2 vs = wipe σ vs ∧ tt σ2 H2 fun b H3 => if b = true then te σ2 H3 QY else QN H3)
    (fin : ∀ H' ys, Same H1 H' → H' D = some (.lst ys) → ShwAll H' ys (ds.filter T) → Qd H') :
    ∃ W : Nat → Nat → Hp → Prop, (∃ m, W 0 m (upd H1 D (.lst []))) ∧ ∀ i m H, W i m H →
      ((Itl K a).stop i H ∧ Qd H) ∨ ((Itl K a).go i H ∧ ∃ Nx : Hp → Prop, (∀ H', Nx H' → ∃ m', m' < m ∧ W (i + 1) m' H') ∧ ∀ x H', (Itl K a).yld i H x H' → g x (wipe σ vs) H' fun σ2 H2 => wipe σ2 vs = wipe σ vs ∧ tt σ2 H2 fun b H3 =>
        if b = true then te σ2 H3 fun y H4 => ∃ acc, H4 D = some (.lst acc) ∧ acc.length < sizeLine ∧ Nx (upd H4 D (.lst (acc ++ [y]))) else Nx H3) := by
  have ln := ShwAll.len sh
  refine lc_list (K := K) (a := a) (xs := xs) (fun m H' => Same H1 H' ∧ ∃ ys, H' D = some (.lst ys) ∧ ShwAll H1 ys ((ds.take m).filter T)) ⟨same_upd n, [], upd_same, by rw [List.take_zero]; exact .nil⟩ (fun m H' _ hP => SqL.of (hP.1 _ _ hx)) (fun m x H' hm hP => ?_) (fun H' hP => ?_)
  · obtain ⟨s1, ys, d1, sy⟩ := hP
    obtain ⟨d, hd, sd⟩ := ShwAll.get sh hm
    have nx : (ds.take (m + 1)).filter T = (ds.take m).filter T ++ (if T d = true then [d] else []) := by
      rw [List.take_add_one, hd, List.filter_append]
      congr 1
      cases e : T d <;> simp [e]
    refine step x d H' _ _ (List.mem_of_getElem? hd) (Shw.same sd s1) s1 (fun e H4 s4 => ⟨ys, s4 _ _ d1, ?_, fun b o z => ?_, ys ++ [x], upd_same, ?_⟩) (fun e H4 s4 => ⟨s1.trans s4, ys, s4 _ _ d1, ?_⟩)
    · have l2 := ShwAll.len sy
      have l3 : ((ds.take m).filter T).length ≤ (ds.take m).length := List.length_filter_le _ _
      rw [List.length_take] at l3
      rw [sizeLine_eq]
      omega
    · rw [upd_ne (ne_of_none z n)]
      exact s4 _ _ (s1 _ _ z)
    · rw [nx, if_pos e]
      exact ShwAll.snoc sy sd
    · rw [nx, if_neg (by rw [e]; exact Bool.false_ne_true), List.append_nil]
      exact sy
  · obtain ⟨s1, ys, d1, sy⟩ := hP
    rw [ln, List.take_length] at sy
    exact fin H' ys s1 d1 (ShwAll.same sy s1)
/-- what the law's judge is given -/
structure FiC (H : Hp) (l : Addr) (ps : List (Str × Str)) (qs rs own : List Str) (x : V) : Prop where
  pt : PtAt H l ps qs rs
  nd : (wordsOf ps qs rs).Nodup
  f1 : ps.length ≤ 200
  f2 : qs.length ≤ 200
  f3 : rs.length ≤ 200
  yo : Txts H x own
  f4 : own.length ≤ 200
theorem FiC.same {H H' : Hp} {l : Addr} {ps : List (Str × Str)} {qs rs own : List Str} {x : V} (h : FiC H l ps qs rs own x) (s : Same H H') : FiC H' l ps qs rs own x := ⟨h.pt.same s, h.nd, h.f1, h.f2, h.f3, Txts.same h.yo s, h.f4⟩
def fiP : TS := fun Dn σ H => ∃ (l : Addr) (ps : List (Str × Str)) (qs rs own : List Str) (x v : V) (k : Kd) (op : Str) (s t : PyData), σ = [some (.ref l), some x, some (.str (kdS k)), some v, some (.str "pos"), some (.int 4), none, none, none, none, none] ∧ FiC H l ps qs rs own x ∧ Shw H v (.tuple [.str "pos", .str op, s, t]) ∧ isOp (.str op) = true ∧
  ∀ H', Same H H' → Dn.rt (.bl (posK ps qs rs own [.str op, s, t] k)) H'
theorem pos_pair {ps : List (Str × Str)} {qs rs own : List Str} (nd : (wordsOf ps qs rs).Nodup) (d : PyData) : inPair (spotsW ps qs own) d = isPos ps qs rs own d := by
  match d with
  | .tuple [.str z, n] =>
    rw [inPair_str]
    show _ = (isIg n && posW ps qs rs own z)
    rw [pos_spots nd]
  | .tuple [] => rfl
  | .tuple [a] => cases a <;> rfl
  | .tuple [.none, n] => rfl
  | .tuple [.bool _, n] => rfl
  | .tuple [.int _, n] => rfl
  | .tuple [.list _, n] => rfl
  | .tuple [.tuple _, n] => rfl
  | .tuple [.dict _, n] => rfl
  | .tuple (a :: _ :: _ :: _) => cases a <;> rfl
  | .none => rfl
  | .bool _ => rfl
  | .int _ => rfl
  | .str _ => rfl
  | .list _ => rfl
  | .dict _ => rfl
theorem two_empty (T : PyData → Bool) (s t : PyData) : ([s, t].filter T).isEmpty = (!T s && !T t) := by
  rw [filter_all]
  show (!T s && (!T t && true)) = _
  rw [Bool.and_true]
theorem two_bad (M Z : PyData → Bool) (s t : PyData) : (([s, t].filter M).filter fun d => !Z d).isEmpty = ((!M s || Z s) && (!M t || Z t)) := by
  rw [List.filter_filter, filter_all]
  show (!(!Z s && M s) && (!(!Z t && M t) && true)) = _
  cases M s <;> cases Z s <;> cases M t <;> cases Z t <;> rfl
theorem two_some (M : PyData → Bool) (s t : PyData) : (!([s, t].filter M).isEmpty) = (M s || M t) := by
  rw [two_empty]
  cases M s <;> cases M t <;> rfl
section
variable {P : Program} {w : World} {K : PySem.W.Frag} {mg : Str → Option Value} {base : Heap}
theorem fi_pos {f : Addr} {cdv : Value} {A : Around} {outer : List Env} {s0 : Shared} {H0 : Hp} {E : XK} {k : Nat} (hr : Room k (A.deeper (envOfC "_law_fits" (defScope sFi) s0.heap.objs.size f cdv))) (hk : 3 ≤ k) (B : Free mg)
    (L : Fnc P w K mg base CX0 1 "_law_lengths" ["_law_parts_here"] spLens2) (Tm : Fnc P w K mg base CX0 1 "_law_is_term" ["_law_names_here", "_law_value"] spTm) :
    PSs (cxOf CX0 P w K mg base nFi "_law_fits" (defScope sFi) f cdv A outer s0 H0 E).nox ((defBody sFi).drop 8) fiP := by
  refine pss_imp (pss_cons (ps_set (i := 7) scFi.nd rfl (.inr rfl) (pe_op op_cat (pe_op op_cat (pe_op op_cat (pe_lst (pa_cons pe_str pa_nil)) (pe_fnc L hr (by omega) (by rfl) pass0 (pa_cons (pv 0) pa_nil)))
          (pe_callTy call_list_of (by rfl) B.list (by decide +kernel) (pa_cons (pe_ix ix_list (pv 0) pe_int (fun _ _ => rfl)) pa_nil)))
          (pe_callTy call_list_of (by rfl) B.list (by decide +kernel) (pa_cons (pv 1) pa_nil))))
    (pss_cons (ps_if (PW.pt (pw_or (pt_cmpR op_eq (pv 2) pe_str (nomark _)) (pw_or1 (pt_cmpR (op_neNil hr.units) (pe_lc (own := [("_law_term", 10)]) (g := gName 10) rfl scFi.nd (pi_tup (pe_slice sl_tupA (pv 3) (po_some pe_int) po_none)) (blkOk_by (N := nFi) (sc := defScope sFi) (by decide +kernel))
            (fun _ _ _ _ _ => pg_name (i := 10) scFi.nd rfl (Or.inl rfl) (Or.inr rfl)) (fun _ _ _ _ _ => pts_one (pt_not (pt_val (pe_fnc Tm hr (by omega) (by rfl) pass0 (pa_cons (pv 7) (pa_cons (pv 10) pa_nil))))))
            (fun _ _ _ _ _ => pv 10)) (pe_lst pa_nil) (nomark _)))))
        (pss_one (ps_ret pe_bl)) pss_nil)
    (pss_cons (ps_setLc (i := 8) (own := [("_law_term", 10)]) (g := gName 10) rfl scFi.nd rfl rfl (sw_true rfl rfl rfl (by decide +kernel)) (pi_tup (pe_slice sl_tupA (pv 3) (po_some pe_int) po_none)) (blkOk_by (N := nFi) (sc := defScope sFi) (by decide +kernel))
            (fun _ _ _ _ _ => pg_name (i := 10) scFi.nd rfl (Or.inl rfl) (Or.inr rfl)) (fun _ _ _ _ _ => pts_one (pt_cmpR (r := rIn K false) op_in_seq (pe_ix (r := rIxT K) ix_tup (pv 10) pe_int (fun _ _ => rfl)) (pv 1) (by with_unfolding_all rfl)))
            (fun _ _ _ _ _ => pv 10))
    (pss_one (ps_ret (pe_or (pe_cmpR op_eq (pv 2) pe_str (nomark _)) (pe_one (pe_and (pe_cmpR op_ne (pe_ix ix_tup (pv 3) pe_int (fun _ _ => rfl)) pe_str (nomark _))
        (pe_and (pe_cmpR (op_neNil hr.units) (pv 8) (pe_lst pa_nil) (nomark _))
        (pe_one (pe_cmpR (op_eqNil hr.units) (pe_lc (own := [("_law_term", 10)]) (g := gName 10) rfl scFi.nd (pi_list (pv 8)) (blkOk_by (N := nFi) (sc := defScope sFi) (by decide +kernel))
            (fun _ _ _ _ _ => pg_name (i := 10) scFi.nd rfl (Or.inl rfl) (Or.inr rfl)) (fun _ _ _ _ _ => pts_one (pt_cmpR op_ne (pe_ix (r := rIxT K) ix_tup (pv 10) pe_int (fun _ _ => rfl)) pe_int (nomark _)))
            (fun _ _ _ _ _ => pv 10)) (pe_lst pa_nil) (nomark _)))))))))))) ?_
  rintro Dn σ H ⟨l, ps, qs, rs, own, x, v, k, op, s, t, rfl, D, sh, io, q⟩
  obtain ⟨v1, v2, v3, hl, y1, y2, y3⟩ := id D.pt
  obtain ⟨b1, ys, rfl, eb1, lb1, at_⟩ := arr_get y1
  obtain ⟨a2, rfl, e2⟩ := id y2
  obtain ⟨ax, rfl, ex⟩ := id D.yo
  have f1 := D.f1
  have f2 := D.f2
  have f4 := D.f4
  have ll := lensOf_le ps
  refine ⟨le_line (by simp), fun r0 n0 => ⟨.ref l, rfl, ?_⟩⟩
  have w0 := same_upd (p := r0) (o := .lst [.str ""]) n0
  have g0 : (upd H r0 (.lst [.str ""])) r0 = some (.lst [.str ""]) := upd_same
  generalize upd H r0 (.lst [.str ""]) = H2 at w0 g0 ⊢
  (first | refine (⟨l, .ref b1, .ref a2, v3, ps, rfl, w0 _ _ hl, Shw.same y1 w0, by omega, fun l1 H3 t3 e4 => ?_⟩) | (show tNil _ _ _; unfold tNil; refine (⟨l, .ref b1, .ref a2, v3, ps, rfl, w0 _ _ hl, Shw.same y1 w0, by omega, fun l1 H3 t3 e4 => ?_⟩)) | ((try unfold tCons); (try unfold tNil); (try unfold tC); refine (⟨l, .ref b1, .ref a2, v3, ps, rfl, w0 _ _ hl, Shw.same y1 w0, by omega, fun l1 H3 t3 e4 => ?_⟩)))
  refine ⟨r0, l1, _, _, rfl, rfl, t3 _ _ g0, e4, ?_, fun r1 n1 => ?_⟩
  · simp only [List.length_map, List.length_cons, List.length_nil, sizeLine_eq]
    omega
  have w1 := w0.trans (t3.trans (same_upd (p := r1) (o := .lst ([.str ""] ++ (lensOf ps).map V.str)) n1))
  have g1 : (upd H3 r1 (.lst ([.str ""] ++ (lensOf ps).map V.str))) r1 = some (.lst ([.str ""] ++ (lensOf ps).map V.str)) := upd_same
  generalize upd H3 r1 (.lst ([.str ""] ++ (lensOf ps).map V.str)) = H4 at w1 g1 ⊢
  refine ⟨.ref l, rfl, l, _, 1, .ref a2, rfl, rfl, SqL.of (w1 _ _ hl), rfl, a2, _, rfl, .inr (SqT.of (w1 _ _ e2)), fun l2 n2 => ?_⟩
  have u2 := same_upd (p := l2) (o := .lst (qs.map V.str)) n2
  refine ⟨r1, l2, _, _, rfl, rfl, u2 _ _ g1, upd_same, ?_, fun r2 n3 => ?_⟩
  · simp only [List.length_map, List.length_append, List.length_cons, List.length_nil, sizeLine_eq]
    omega
  have u3 := u2.trans (same_upd (p := r2) (o := .lst (([.str ""] ++ (lensOf ps).map V.str) ++ qs.map V.str)) n3)
  have g3 : (upd (upd H4 l2 (.lst (qs.map V.str))) r2 (.lst (([.str ""] ++ (lensOf ps).map V.str) ++ qs.map V.str))) r2 = some (.lst (([.str ""] ++ (lensOf ps).map V.str) ++ qs.map V.str)) := upd_same
  have w3 := w1.trans u3
  generalize upd (upd H4 l2 (.lst (qs.map V.str))) r2 (.lst (([.str ""] ++ (lensOf ps).map V.str) ++ qs.map V.str)) = H5 at w3 g3 ⊢
  refine ⟨.ref ax, rfl, ax, _, rfl, .inr (SqT.of (w3 _ _ ex)), fun l3 n4 => ?_⟩
  have u4 := same_upd (p := l3) (o := .lst (own.map V.str)) n4
  refine ⟨r2, l3, _, _, rfl, rfl, u4 _ _ g3, upd_same, ?_, fun r3 n5 => ?_⟩
  · simp only [List.length_map, List.length_append, List.length_cons, List.length_nil, sizeLine_eq]
    omega
  have u5 := u4.trans (same_upd (p := r3) (o := .lst ((([.str ""] ++ (lensOf ps).map V.str) ++ qs.map V.str) ++ own.map V.str)) n5)
  have g5 : (upd (upd H5 l3 (.lst (own.map V.str))) r3 (.lst ((([.str ""] ++ (lensOf ps).map V.str) ++ qs.map V.str) ++ own.map V.str))) r3 = some (.lst ((spotsW ps qs own).map V.str)) := by
    rw [upd_same]
    unfold spotsW
    simp only [List.map_append]
    rfl
  have w5 := w3.trans u5
  generalize upd (upd H5 l3 (.lst (own.map V.str))) r3 (.lst ((([.str ""] ++ (lensOf ps).map V.str) ++ qs.map V.str) ++ own.map V.str)) = H6 at w5 g5 ⊢
  clear w3 u4 u5 u2 u3 g3 g1 w1 g0 w0 t3 e4
  have q6 : ∀ H', Same H6 H' → Dn.rt (.bl (posK ps qs rs own [.str op, s, t] k)) H' := fun H' s' => q H' (w5.trans s')
  have sh6 := Shw.same sh w5
  obtain ⟨b, zs, rfl, eb, hb⟩ := shwT sh6
  cases hb with
  | cons p0 hb1 =>
  cases p0
  cases hb1 with
  | cons p1 hb2 =>
  cases p1
  refine ⟨.str (kdS k), rfl, rfl, _, rfl, ite2 (fun ek => ?_) (fun ek => ?_)⟩
  · have : k = .body := by
      have e := of_decide_eq_true ek
      have e := V.str.inj e
      cases k
      · exact absurd e (by decide +kernel)
      · exact absurd e (by decide +kernel)
      · rfl
    subst this
    exact q6 H6 (Same.refl _)
  · have hk : k ≠ .body := fun h => ek (by rw [h]; exact decide_eq_true rfl)
    refine ⟨.ref b, rfl, 2, rfl, ?_⟩
    (first | (show tNoPart _ _ _; unfold tNoPart) | skip)
    refine cut_shw sh6 fun c H7 w7 sc => ?_
    have sc : Shw H7 c (.tuple [s, t]) := sc
    obtain ⟨bc, cs, rfl, ebc, hbc⟩ := shwT sc
    have lc2 := ShwAll.len hbc
    have lc2 : cs.length = 2 := lc2
    refine ⟨bc, rfl, ⟨_, SqT.of ebc⟩, fun D1 nD1 => ?_⟩
    refine lc_tupF (K := K) (fun d => !isPos ps qs rs own d) ebc nD1 (by omega) hbc (fun y d H' QY QN hd sd s1 hy hn => ?_) (fun H8 ys8 s8 d8 sy8 => ?_)
    · refine ⟨rfl, .ref r3, rfl, y, rfl, r3, spotsW ps qs own, y, d, rfl, s1 _ _ (w7 _ _ g5), sd, _, rfl, ?_⟩
      rw [pos_pair D.nd]
      cases e : isPos ps qs rs own d with
      | true => exact iteF (hn (by rw [e]; rfl) H' (Same.refl _))
      | false => exact iteT ⟨_, rfl, hy (by rw [e]; rfl) H' (Same.refl _)⟩
    · refine ⟨le_line (by simp), fun N nN => ?_⟩
      have s9 := same_upd (p := N) (o := .lst []) nN
      refine ⟨ys8, ⟨D1, N, rfl, rfl, .inl ⟨SqL.of (s9 _ _ d8), SqL.of upd_same⟩⟩, _, rfl, ?_⟩
      rw [empty_len (ShwAll.len sy8), two_empty, Bool.not_not, Bool.not_not]
      have w9 := (w7.trans s8).trans s9
      generalize upd H8 N (.lst []) = H9 at s9 w9 ⊢
      cases ep : (isPos ps qs rs own s && isPos ps qs rs own t) with
      | false =>
        refine iteT ?_
        have z := q6 H9 w9
        have en : posK ps qs rs own [.str op, s, t] k = false := by
          have ea : atomP ps qs rs own [.str op, s, t] = false := by
            show (isOp (.str op) && (isPos ps qs rs own s && isPos ps qs rs own t)) = false
            rw [ep, Bool.and_false]
          cases k
          · exact ea
          · show (atomP ps qs rs own [.str op, s, t] && _) = false
            rw [ea]; rfl
          · rfl
        rw [en] at z
        exact z
      | true =>
        refine iteF ?_
        have ea : atomP ps qs rs own [.str op, s, t] = true := by
          show (isOp (.str op) && (isPos ps qs rs own s && isPos ps qs rs own t)) = true
          rw [ep, io]; rfl
        rw [Bool.and_eq_true] at ep
        obtain ⟨z1, i1, rfl⟩ := isPos_is ep.1
        obtain ⟨z2, i2, rfl⟩ := isPos_is ep.2
        have sh9 := Shw.same sh6 w9
        refine ⟨.ref b, rfl, 2, rfl, ?_⟩
        (first | (show tNoPart _ _ _; unfold tNoPart) | skip)
        refine cut_shw sh9 fun c2 H10 w10 sc2 => ?_
        have sc2 : Shw H10 c2 (.tuple [.tuple [.str z1, .int i1], .tuple [.str z2, .int i2]]) := sc2
        obtain ⟨bc2, cs2, rfl, ebc2, hbc2⟩ := shwT sc2
        have lc3 : cs2.length = 2 := ShwAll.len hbc2
        have w10' := w5.trans (w9.trans w10)
        refine ⟨bc2, rfl, ⟨_, SqT.of ebc2⟩, fun D2 nD2 => ?_⟩
        refine lc_tupF (K := K) (fun d => mineT own d) ebc2 nD2 (by omega) hbc2 (fun y d H' QY QN hd sd s1 hy hn => ?_) (fun H11 ys11 s11 d11 sy11 => ?_)
        · obtain ⟨z, i, rfl⟩ : ∃ z i, d = .tuple [.str z, .int i] := by
            simp only [List.mem_cons, List.not_mem_nil, or_false] at hd
            rcases hd with hd | hd
            · exact ⟨_, _, hd⟩
            · exact ⟨_, _, hd⟩
          · obtain ⟨bp, pp, rfl, ebp, hbp⟩ := shwT sd
            cases hbp with
            | cons p1 p2 =>
              cases p1
              refine ⟨rfl, .ref bp, rfl, bp, _, 0, .str z, rfl, rfl, SqT.of ebp, at0 _ _, .ref ax, rfl, ax, _, rfl, .inr (SqT.of (s1 _ _ (w10' _ _ ex))), rfl, flat_strs _, _, rfl, ?_⟩
              have ei : (if false = true then !inV (.str z) (own.map V.str) else inV (.str z) (own.map V.str)) = decide (z ∈ own) := by rw [if_neg Bool.false_ne_true, inV_strs]
              rw [ei]
              cases em : decide (z ∈ own) with
              | true => exact iteT ⟨_, rfl, hy em H' (Same.refl _)⟩
              | false => exact iteF (hn em H' (Same.refl _))
        · have w11 := w9.trans (w10.trans s11)
          have q11 : ∀ H', Same H11 H' → Dn.rt (.bl (posK ps qs rs own [.str op, .tuple [.str z1, .int i1], .tuple [.str z2, .int i2]] k)) H' := fun H' s' => q6 H' (w11.trans s')
          refine ⟨.str (kdS k), rfl, rfl, _, rfl, ite2 (fun ef => ?_) (fun ef => ?_)⟩
          · have : k = .form := by
              have e := V.str.inj (of_decide_eq_true ef)
              cases k
              · rfl
              · exact absurd e (by decide +kernel)
              · exact absurd e (by decide +kernel)
            subst this
            have z := q11 H11 (Same.refl _)
            have z : Dn.rt (.bl (atomP ps qs rs own [.str op, .tuple [.str z1, .int i1], .tuple [.str z2, .int i2]])) H11 := z
            rw [ea] at z
            exact z
          · have : k = .guard := by
              cases k
              · exact absurd (decide_eq_true rfl) ef
              · rfl
              · exact absurd rfl hk
            subst this
            have qg : ∀ H', Same H11 H' → Dn.rt (.bl (!decide (op = "<") && ((mineT own (.tuple [.str z1, .int i1]) || mineT own (.tuple [.str z2, .int i2])) && ((!mineT own (.tuple [.str z1, .int i1]) || zeroT (.tuple [.str z1, .int i1])) && (!mineT own (.tuple [.str z2, .int i2]) || zeroT (.tuple [.str z2, .int i2])))))) H' := fun H' s' => by
              have z : Dn.rt (.bl (atomP ps qs rs own [.str op, .tuple [.str z1, .int i1], .tuple [.str z2, .int i2]] && guardA own [.str op, .tuple [.str z1, .int i1], .tuple [.str z2, .int i2]])) H' := q11 H' s'
              rw [ea, Bool.true_and] at z
              exact z
            rw [← two_some, ← two_bad] at qg
            have eb11 := w11 _ _ eb
            refine ⟨.ref b, rfl, b, _, 1, .str op, rfl, rfl, SqT.of eb11, at1 _ _ _, rfl, _, rfl, ?_⟩
            have ev : decide (V.str op = V.str (Str.ofString "<")) = decide (op = "<") := decide_eq_decide.mpr ⟨fun k => V.str.inj k, fun k => congrArg V.str k⟩
            rw [ev]
            cases e1 : (!decide (op = "<")) with
            | false =>
              have z := qg H11 (Same.refl _)
              rw [e1] at z
              exact z
            | true =>
              rw [e1] at qg
              simp only [Bool.true_and] at qg
              refine ⟨.ref D2, rfl, le_line (by simp), fun N2 nN2 => ?_⟩
              have s12 := same_upd (p := N2) (o := .lst []) nN2
              refine ⟨ys11, ⟨D2, N2, rfl, rfl, .inl ⟨SqL.of (s12 _ _ d11), SqL.of upd_same⟩⟩, _, rfl, ?_⟩
              rw [empty_len (ShwAll.len sy11)]
              generalize upd H11 N2 (.lst []) = H12 at s12 ⊢
              cases e2 : (!([PyData.tuple [.str z1, .int i1], .tuple [.str z2, .int i2]].filter fun d => mineT own d).isEmpty) with
              | false =>
                have z := qg H12 s12
                rw [e2] at z
                exact z
              | true =>
                rw [e2] at qg
                simp only [Bool.true_and] at qg
                refine ⟨.ref D2, rfl, D2, rfl, ⟨_, SqL.of (s12 _ _ d11)⟩, fun D3 nD3 => ?_⟩
                have sy12 := ShwAll.same sy11 s12
                have ly := ShwAll.len sy12
                have lf : ([PyData.tuple [.str z1, .int i1], .tuple [.str z2, .int i2]].filter fun d => mineT own d).length ≤ 2 := List.length_filter_le _ _
                refine lc_lstF (K := K) (fun d => !zeroT d) (s12 _ _ d11) nD3 (by omega) sy12 (fun y d H' QY QN hd sd s1 hy hn => ?_) (fun H13 ys13 s13 d13 sy13 => ?_)
                · obtain ⟨z, i, rfl⟩ : ∃ z i, d = .tuple [.str z, .int i] := by
                    have hd := (List.mem_filter.mp hd).1
                    simp only [List.mem_cons, List.not_mem_nil, or_false] at hd
                    rcases hd with hd | hd
                    · exact ⟨_, _, hd⟩
                    · exact ⟨_, _, hd⟩
                  · obtain ⟨bp, pp, rfl, ebp, hbp⟩ := shwT sd
                    cases hbp with
                    | cons p1 p2 =>
                      cases p1
                      cases p2 with
                      | cons p3 p4 =>
                        cases p3
                        refine ⟨rfl, .ref bp, rfl, bp, _, 1, .int i, rfl, rfl, SqT.of ebp, at1 _ _ _, rfl, _, rfl, ?_⟩
                        have ei : decide (V.int i = V.int 0) = zeroT (.tuple [.str z, .int i]) := decide_eq_decide.mpr ⟨fun k => V.int.inj k, fun k => congrArg V.int k⟩
                        rw [ei]
                        cases em : (!zeroT (.tuple [.str z, .int i])) with
                        | true => exact iteT ⟨_, rfl, hy em H' (Same.refl _)⟩
                        | false => exact iteF (hn em H' (Same.refl _))
                · refine ⟨le_line (by simp), fun N3 nN3 => ?_⟩
                  have s14 := same_upd (p := N3) (o := .lst []) nN3
                  refine ⟨ys13, ⟨D3, N3, rfl, rfl, .inl ⟨SqL.of (s14 _ _ d13), SqL.of upd_same⟩⟩, ?_⟩
                  rw [empty_len (ShwAll.len sy13)]
                  exact qg _ ((s12.trans s13).trans s14)
end
end K03

set_option autoImplicit false
set_option maxRecDepth 100000
set_option maxHeartbeats 4000000
/-! the law's judge of claims: atoms -/
namespace K03
open PySem PySem.Spec PyProof.Rows L2 KX
def atmJ (ps : List (Str × Str)) (qs rs own : List Str) (w : Str) (ds : List PyData) (k : Kd) : Bool := if w = "pos" then posK ps qs rs own ds k else valK ps qs rs own ds k
def fiA : TS := fun Dn σ H => ∃ (l : Addr) (ps : List (Str × Str)) (qs rs own : List Str) (x v : V) (k : Kd) (w : Str) (o s t : PyData), σ = [some (.ref l), some x, some (.str (kdS k)), some v, some (.str w), some (.int 4), none, none, none, none, none] ∧ (w = "pos" ∨ w = "val") ∧ FiC H l ps qs rs own x ∧ Shw H v (.tuple [.str w, o, s, t]) ∧ (k = .form → own = []) ∧
  ∀ H', Same H H' → Dn.rt (.bl (atmJ ps qs rs own w [o, s, t] k)) H'
section
variable {ps : List (Str × Str)} {qs rs own : List Str}
theorem atm_noop {w : Str} {o s t : PyData} {k : Kd} (h : isOp o = false) : atmJ ps qs rs own w [o, s, t] k = false := by
  have a : atomP ps qs rs own [o, s, t] = false := by
    show (isOp o && _) = false
    rw [h]; rfl
  have b : atomV ps qs rs own [o, s, t] = false := by
    show (isOp o && _) = false
    rw [h]; rfl
  unfold atmJ
  split
  · cases k
    · exact a
    · show (atomP ps qs rs own [o, s, t] && _) = false
      rw [a]; rfl
    · rfl
  · cases k
    · exact b
    · rfl
    · show (atomV ps qs rs own [o, s, t] && _) = false
      rw [b]; rfl
theorem beside_nil (d : PyData) : besideT [] d = true := by
  unfold besideT
  split
  · simp
  · rfl
theorem atm_val {o s t : PyData} {k : Kd} (nd : (wordsOf ps qs rs).Nodup) (ho : isOp o = true) (hk : k = .form → own = []) : atmJ ps qs rs own "val" [o, s, t] k = (!decide (kdS k = "guard") && (amtL ps qs rs own s && amtL ps qs rs own t)) := by
  rw [amt_is nd, amt_is nd]
  have e : atmJ ps qs rs own "val" [o, s, t] k = valK ps qs rs own [o, s, t] k := if_neg (by decide)
  rw [e]
  cases k with
  | form =>
    rw [hk rfl, beside_nil, beside_nil, Bool.and_true, Bool.and_true]
    show (isOp o && (isVal ps qs rs [] s && isVal ps qs rs [] t)) = _
    rw [ho]
    have : decide (kdS .form = "guard") = false := by decide +kernel
    rw [this]
    rfl
  | guard =>
    have : decide (kdS .guard = "guard") = true := by decide +kernel
    rw [this]
    rfl
  | body =>
    have : decide (kdS .body = "guard") = false := by decide +kernel
    rw [this]
    show ((isOp o && (isVal ps qs rs own s && isVal ps qs rs own t)) && (besideT own s && besideT own t)) = _
    rw [ho]
    cases isVal ps qs rs own s <;> cases isVal ps qs rs own t <;> cases besideT own s <;> cases besideT own t <;> rfl
end
section
variable {P : Program} {w : World} {K : PySem.W.Frag} {mg : Str → Option Value} {base : Heap}
theorem fi_atm {f : Addr} {cdv : Value} {A : Around} {outer : List Env} {s0 : Shared} {H0 : Hp} {E : XK} {k : Nat} (hr : Room k (A.deeper (envOfC "_law_fits" (defScope sFi) s0.heap.objs.size f cdv))) (hk : 3 ≤ k) (B : Free mg)
    (L : Fnc P w K mg base CX0 1 "_law_lengths" ["_law_parts_here"] spLens2) (Tm : Fnc P w K mg base CX0 1 "_law_is_term" ["_law_names_here", "_law_value"] spTm) (Am : Fnc P w K mg base CX0 2 "_law_is_amount" ["_law_parts_here", "_law_own", "_law_value"] spAm) :
    PSs (cxOf CX0 P w K mg base nFi "_law_fits" (defScope sFi) f cdv A outer s0 H0 E).nox ((defBody sFi).drop 6) fiA := by
  refine pss_imp (pss_cons (ps_if (PW.pt (pw_or (pt_not (pt_val (pe_callB call_isi (by rfl) B.isinstance (by decide +kernel) (pa_cons (pe_ix ix_tup (pv 3) pe_int (fun _ _ => rfl)) (pa_cons (pe_bltn (v := .ty "str") (by rfl) B.str (by decide +kernel) rfl) pa_nil)))))
        (pw_or1 (pt_cmpR (r := rIn K true) op_notIn_seq (pe_ix ix_tup (pv 3) pe_int (fun _ _ => rfl)) (pe_tup (pa_cons pe_str (pa_cons pe_str (pa_cons pe_str pa_nil)))) (by with_unfolding_all rfl)))))
      (pss_one (ps_ret pe_bl)) pss_nil)
    (pss_cons (ps_if (pt_cmpR op_eq (pv 4) pe_str (nomark _))
      (pss_cons (ps_setLc (i := 6) (own := [("_law_term", 10)]) (g := gName 10) rfl scFi.nd rfl rfl (sw_true rfl rfl rfl (by decide +kernel)) (pi_tup (pe_slice sl_tupA (pv 3) (po_some pe_int) po_none)) (blkOk_by (N := nFi) (sc := defScope sFi) (by decide +kernel))
            (fun _ _ _ _ _ => pg_name (i := 10) scFi.nd rfl (Or.inl rfl) (Or.inr rfl)) (fun _ _ _ _ _ => pts_one (pt_not (pt_val (pe_fnc Am hr (by omega) (by rfl) pass0 (pa_cons (pv 0) (pa_cons (pv 1) (pa_cons (pv 10) pa_nil)))))))
            (fun _ _ _ _ _ => pv 10))
        (pss_one (ps_ret (pe_and (pe_cmpR op_ne (pv 2) pe_str (nomark _)) (pe_one (pe_cmpR (op_eqNil hr.units) (pv 6) (pe_lst pa_nil) (nomark _))))))) pss_nil)
    (fi_pos hr hk B L Tm))) ?_
  rintro Dn σ H ⟨l, ps, qs, rs, own, x, v, k, w, o, s, t, rfl, hw, D, sh, hown, q⟩
  obtain ⟨b, zs, rfl, eb, hb⟩ := shwT sh
  cases hb with
  | cons p0 hb1 =>
  cases p0
  cases hb1 with
  | @cons x1 _ _ _ p1 hb2 =>
  refine ⟨.ref b, rfl, b, _, 1, x1, rfl, rfl, SqT.of eb, at1 _ _ _, x1, .ty "str", _, _, isStrD o, rfl, .ty _, shw_ty p1, kit_ty (kit_strD o), isStrD o, rfl, ?_⟩
  cases p1 with
  | non => exact iteT (by have z := q H (Same.refl H); rw [atm_noop rfl] at z; exact z)
  | bl _ => exact iteT (by have z := q H (Same.refl H); rw [atm_noop rfl] at z; exact z)
  | int _ => exact iteT (by have z := q H (Same.refl H); rw [atm_noop rfl] at z; exact z)
  | lst _ _ => exact iteT (by have z := q H (Same.refl H); rw [atm_noop rfl] at z; exact z)
  | tup _ _ => exact iteT (by have z := q H (Same.refl H); rw [atm_noop rfl] at z; exact z)
  | dct _ => exact iteT (by have z := q H (Same.refl H); rw [atm_noop rfl] at z; exact z)
  | str op =>
    refine iteF ⟨.ref b, rfl, b, _, 1, .str op, rfl, rfl, SqT.of eb, at1 _ _ _, le_line (by simp), fun tp ntp => ⟨tp, _, rfl, .inr (SqT.of upd_same), rfl, rfl, _, rfl, ?_⟩⟩
    have sm := same_upd (p := tp) (o := .tup (opsW.map V.str)) ntp
    have ei : (if true = true then !inV (.str op) [V.str "<=", V.str "<", V.str "=="] else inV (.str op) [V.str "<=", V.str "<", V.str "=="]) = !isOp (.str op) := by
      rw [if_pos rfl]
      have := inV_strs op opsW
      simp only [opsW, List.map_cons, List.map_nil] at this
      rw [this]
      rfl
    rw [ei]
    have eh : upd H tp (.tup [V.str "<=", V.str "<", V.str "=="]) = upd H tp (.tup (opsW.map V.str)) := rfl
    rw [eh]
    generalize upd H tp (.tup (opsW.map V.str)) = H1 at sm ⊢
    have D1 := D.same sm
    have sh1 := Shw.same sh sm
    cases eo : isOp (.str op) with
    | false =>
      have z := q H1 sm
      rw [atm_noop eo] at z
      exact iteT z
    | true =>
      refine iteF ⟨.str w, rfl, rfl, _, rfl, ite2 (fun ew => ?_) (fun ew => ?_)⟩
      · obtain rfl : w = "val" := V.str.inj (of_decide_eq_true ew)
        have q1 : ∀ H', Same H1 H' → Dn.rt (.bl (!decide (kdS k = "guard") && (amtL ps qs rs own s && amtL ps qs rs own t))) H' := fun H' s' => by
          have z := q H' (sm.trans s')
          rw [atm_val D.nd eo hown] at z
          exact z
        refine ⟨.ref b, rfl, 2, rfl, ?_⟩
        (first | (show tNoPart _ _ _; unfold tNoPart) | skip)
        refine cut_shw sh1 fun c H7 w7 sc => ?_
        have sc : Shw H7 c (.tuple [s, t]) := sc
        obtain ⟨bc, cs, rfl, ebc, hbc⟩ := shwT sc
        have lc2 : cs.length = 2 := ShwAll.len hbc
        refine ⟨bc, rfl, ⟨_, SqT.of ebc⟩, fun D2 nD2 => ?_⟩
        refine lc_tupF (K := K) (fun d => !amtL ps qs rs own d) ebc nD2 (by omega) hbc (fun y d H' QY QN hd sd s1 hy hn => ?_) (fun H8 ys8 s8 d8 sy8 => ?_)
        · have D3 := D1.same (w7.trans s1)
          obtain ⟨v1, v2, v3, hl, y1, y2, y3⟩ := D3.pt
          refine ⟨rfl, .ref l, rfl, x, rfl, y, rfl, l, v1, v2, v3, ps, qs, rs, own, x, y, d, rfl, hl, y1, y2, y3, D3.yo, sd, D.f1, D.f2, D.f3, D.f4, fun H4 s4 => ⟨_, rfl, ?_⟩⟩
          cases e : amtL ps qs rs own d with
          | true => exact iteF (hn (by rw [e]; rfl) H4 s4)
          | false => exact iteT ⟨_, rfl, hy (by rw [e]; rfl) H4 s4⟩
        · refine ⟨.str (kdS k), rfl, rfl, _, rfl, ?_⟩
          have ek : decide (V.str (kdS k) = V.str (Str.ofString "guard")) = decide (kdS k = "guard") := decide_eq_decide.mpr ⟨fun k => V.str.inj k, fun k => congrArg V.str k⟩
          rw [ek]
          cases e1 : (!decide (kdS k = "guard")) with
          | false =>
            have z := q1 H8 (w7.trans s8)
            rw [e1] at z
            exact z
          | true =>
            rw [e1] at q1
            simp only [Bool.true_and] at q1
            refine ⟨.ref D2, rfl, le_line (by simp), fun N nN => ?_⟩
            have s9 := same_upd (p := N) (o := .lst []) nN
            refine ⟨ys8, ⟨D2, N, rfl, rfl, .inl ⟨SqL.of (s9 _ _ d8), SqL.of upd_same⟩⟩, ?_⟩
            rw [empty_len (ShwAll.len sy8), two_empty, Bool.not_not, Bool.not_not]
            exact q1 _ ((w7.trans s8).trans s9)
      · have hp : w = "pos" := by
          rcases hw with h | h
          · exact h
          · exact absurd (decide_eq_true (congrArg V.str h)) ew
        subst hp
        exact ⟨l, ps, qs, rs, own, x, .ref b, k, op, s, t, rfl, D1, sh1, eo, fun H' s' => q H' (sm.trans s')⟩
end
end K03

set_option autoImplicit false
set_option maxRecDepth 100000
set_option maxHeartbeats 4000000
/-! short ways to write terms of rules -/
namespace K03
open PySem PySem.Spec PyProof.Rows L2 KX
end K03

set_option autoImplicit false
set_option maxRecDepth 100000
set_option maxHeartbeats 4000000
/-! the law's judge of claims: the def, by depth -/
namespace K03
open PySem PySem.Spec PyProof.Rows L2 KX
section
variable {ps : List (Str × Str)} {qs rs own : List Str} {n : Nat} {k : Kd} {z : Str} {ds : List PyData} {d : PyData}
theorem jf_ao (h : z = "and" ∨ z = "or") : jf ps qs rs (n + 1) k own (.tuple (.str z :: ds)) = allPt (jf ps qs rs n k own) ds := by
  unfold allPt
  rcases h with rfl | rfl
  · rfl
  · rfl
theorem jf_not1 : jf ps qs rs (n + 1) k own (.tuple [.str "not", d]) = (decide (k ≠ .guard) && jf ps qs rs n k own d) := rfl
theorem jf_not2 (h : ds.length ≠ 1) : jf ps qs rs (n + 1) k own (.tuple (.str "not" :: ds)) = false := by
  match ds, h with
  | [], _ => exact Bool.and_false _
  | [_], h => exact absurd rfl h
  | _ :: _ :: _, _ => exact Bool.and_false _
theorem jf_else (h1 : ¬ z = "pos") (h2 : ¬ z = "val") (h3 : ¬ z = "all") (h4 : ¬ z = "not") (h5 : ¬ (z = "and" ∨ z = "or")) : jf ps qs rs (n + 1) k own (.tuple (.str z :: ds)) = false := by
  simp only [jf, if_neg h1, if_neg h2, if_neg h3, if_neg h4, if_neg h5]
theorem jf_len (h1 : z = "all" ∨ z = "pos" ∨ z = "val") (h : ds.length ≠ 3) : jf ps qs rs (n + 1) k own (.tuple (.str z :: ds)) = false := by
  have nm : ∀ (own : List Str), atomP ps qs rs own ds = false ∧ atomV ps qs rs own ds = false := fun own => by
    match ds, h with
    | [], _ => exact ⟨rfl, rfl⟩
    | [_], _ => exact ⟨rfl, rfl⟩
    | [_, _], _ => exact ⟨rfl, rfl⟩
    | [_, _, _], h => exact absurd rfl h
    | _ :: _ :: _ :: _ :: _, _ => exact ⟨rfl, rfl⟩
  rcases h1 with rfl | rfl | rfl
  · match ds, h with
    | [], _ => exact Bool.and_false _
    | [_], _ => exact Bool.and_false _
    | [_, _], _ => exact Bool.and_false _
    | [_, _, _], h => exact absurd rfl h
    | _ :: _ :: _ :: _ :: _, _ => exact Bool.and_false _
  · show posK ps qs rs own ds k = false
    cases k
    · exact (nm own).1
    · show (atomP ps qs rs own ds && _) = false
      rw [(nm own).1]; rfl
    · rfl
  · show valK ps qs rs own ds k = false
    cases k
    · exact (nm own).2
    · rfl
    · show (atomV ps qs rs own ds && _) = false
      rw [(nm own).2]; rfl
theorem jf_allk {o g b : PyData} : jf ps qs rs (n + 1) k own (.tuple [.str "all", o, g, b]) = (decide (k = .form) && (ownD ps qs rs o && (jf ps qs rs n .guard (strsD o) g && jf ps qs rs n .body (strsD o) b))) := rfl
theorem jf_atm {o s t : PyData} (h : z = "pos" ∨ z = "val") : jf ps qs rs (n + 1) k own (.tuple [.str z, o, s, t]) = atmJ ps qs rs own z [o, s, t] k := by
  unfold atmJ
  rcases h with rfl | rfl
  · rfl
  · rfl
theorem own_is {o : PyData} (h : ownD ps qs rs o = true) : ∃ zs : List Str, o = .tuple (zs.map PyData.str) ∧ zs.length ≤ 2 := by
  cases o with
  | tuple ds =>
    have h : (decide (ds.length = 1 ∨ ds.length = 2) && (allStr ds && ((ds.map txtD).all fun z => nameS z && !decide (z ∈ wordsOf ps qs rs)) && decide ((onceS (ds.map txtD)).length = ds.length))) = true := h
    simp only [Bool.and_eq_true, decide_eq_true_eq] at h
    obtain ⟨zs, rfl⟩ := strs_all h.2.1.1
    refine ⟨zs, rfl, ?_⟩
    have := h.1
    rw [List.length_map] at this
    omega
  | _ => cases h
end
theorem inV_apv (z : Str) : (if true = true then !inV (.str z) [.str "all", .str "pos", .str "val"] else inV (.str z) [.str "all", .str "pos", .str "val"]) = !decide (z = "all" ∨ z = "pos" ∨ z = "val") := by
  rw [if_pos rfl]
  have := inV_strs z ["all", "pos", "val"]
  simp only [List.map_cons, List.map_nil] at this
  rw [this]
  simp
theorem inV_ao2 (z : Str) : (if false = true then !inV (.str z) [.str "and", .str "or"] else inV (.str z) [.str "and", .str "or"]) = decide (z = "and" ∨ z = "or") := by
  rw [if_neg Bool.false_ne_true]
  have := inV_strs z ["and", "or"]
  simp only [List.map_cons, List.map_nil] at this
  rw [this]
  simp
theorem at2' (x y z : V) (xs : List V) : atI (x :: y :: z :: xs) 2 = some z := by
  unfold atI ixN
  simp
  rw [if_pos (by omega)]
  rfl
theorem at3' (x y z t : V) : atI [x, y, z, t] 3 = some t := by
  unfold atI ixN
  simp
def spFi (n : Nat) : Sp := fun vs H Q _ => ∃ (l : Addr) (ps : List (Str × Str)) (qs rs own : List Str) (x : V) (k : Kd) (v : V) (d : PyData), vs = [.ref l, x, .str (kdS k), v] ∧ FiC H l ps qs rs own x ∧ (k = .form → own = []) ∧ Shw H v d ∧ gd d = true ∧ PyData.depth d ≤ n ∧
  ∀ H', Same H H' → Q (.bl (jf ps qs rs n k own d)) H'
theorem kd_guard (k : Kd) : decide (V.str (kdS k) = V.str (Str.ofString "guard")) = !decide (k ≠ .guard) := by cases k <;> decide +kernel
theorem kd_claim (k : Kd) : decide (V.str (kdS k) = V.str (Str.ofString "claim")) = decide (k = .form) := by cases k <;> decide +kernel
section
variable {P : Program} {w : World} {K : PySem.W.Frag} {mg : Str → Option Value} {base : Heap}
theorem ok_fi {f : Addr} {fd : FuncData} (F : Fun K "_law_fits" "_law_fits" sFi f fd) (hb : Binds K fd ["_law_parts_here", "_law_own", "_law_kind", "_law_value"] []) (hm : mg "_law_fits" = some (.ref f)) (B : Free mg)
    (L : Fnc P w K mg base CX0 1 "_law_lengths" ["_law_parts_here"] spLens2) (Tm : Fnc P w K mg base CX0 1 "_law_is_term" ["_law_names_here", "_law_value"] spTm) (Am : Fnc P w K mg base CX0 2 "_law_is_amount" ["_law_parts_here", "_law_own", "_law_value"] spAm)
    (Io : Fnc P w K mg base CX0 3 "_law_is_own" ["_law_parts_here", "_law_value"] spIo) :
    ∀ n, FnOk P w K mg base CX0 (4 + n) f fd ["_law_parts_here", "_law_own", "_law_kind", "_law_value"] (spFi n)
  | 0 => by
    show FnOk P w K mg base CX0 (3 + 1) f fd _ _
    refine F.ok scFi (fun vs H Q E h => ?_) (fun cdv A outer s H vs Q E hr h => ?_)
    · obtain ⟨l, ps, qs, rs, own, x, k, v, d, rfl, _⟩ := h
      rfl
    · obtain ⟨l, ps, qs, rs, own, x, k, v, d, rfl, D, hown, sh, g, dp, q⟩ := h
      refine ⟨_, pss_cons (ps_if (PW.pt <| pw_or (pt_not (pt_val (pe_callB call_isi (by rfl) (Free.isinstance B) (by decide +kernel) (pa_cons (pv 3) (pa_cons (pe_bltn (v := .ty "tuple") (by rfl) (Free.tuple B) (by decide +kernel) rfl) pa_nil))))) <| pw_or (pt_cmpR (op_eqNil hr.units) (pv 3) (pe_tup pa_nil) (nomark _)) <| pw_or1 (pt_not (pt_val (pe_callB call_isi (by rfl) (Free.isinstance B) (by decide +kernel) (pa_cons (pe_ix ix_tup (pv 3) pe_int (fun _ _ => rfl)) (pa_cons (pe_bltn (v := .ty "str") (by rfl) (Free.str B) (by decide +kernel) rfl) pa_nil)))))) (pss_one (ps_ret pe_bl)) pss_nil) <|
        pss_cons ps_never <| pss_cons ps_never <| pss_cons ps_never <| pss_cons ps_never <| pss_cons ps_never <| pss_cons ps_never <| pss_cons ps_never <| pss_cons ps_never <| pss_cons ps_never <| pss_cons ps_never <| pss_one ps_never, ?_⟩
      refine ⟨v, rfl, v, .ty "tuple", _, _, isTup d, rfl, .ty _, shw_ty sh, kit_ty (kit_tup d), isTup d, rfl, ?_⟩
      have ht : isTup d = false := by
        cases d with
        | tuple ds => rw [depth_tup] at dp; omega
        | _ => rfl
      rw [ht]
      exact q H (Same.refl H)
  | n + 1 => by
    have ih := ok_fi F hb hm B L Tm Am Io n
    have Rc : Fnc P w K mg base CX0 (4 + n) "_law_fits" ["_law_parts_here", "_law_own", "_law_kind", "_law_value"] (spFi n) := ⟨⟨f, fd, ih, hb, hm, F.kp⟩⟩
    show FnOk P w K mg base CX0 ((4 + n) + 1) f fd _ _
    refine F.ok scFi (fun vs H Q E h => ?_) (fun cdv A outer s H vs Q E hr h => ?_)
    · obtain ⟨l, ps, qs, rs, own, x, k, v, d, rfl, _⟩ := h
      rfl
    · obtain ⟨l, ps, qs, rs, own, x, k, v, d, rfl, D, hown, sh, g, dp, q⟩ := h
      refine ⟨_, pss_cons (ps_if (PW.pt <| pw_or (pt_not (pt_val (pe_callB call_isi (by rfl) (Free.isinstance B) (by decide +kernel) (pa_cons (pv 3) (pa_cons (pe_bltn (v := .ty "tuple") (by rfl) (Free.tuple B) (by decide +kernel) rfl) pa_nil))))) <| pw_or (pt_cmpR (op_eqNil hr.units) (pv 3) (pe_tup pa_nil) (nomark _)) <| pw_or1 (pt_not (pt_val (pe_callB call_isi (by rfl) (Free.isinstance B) (by decide +kernel) (pa_cons (pe_ix ix_tup (pv 3) pe_int (fun _ _ => rfl)) (pa_cons (pe_bltn (v := .ty "str") (by rfl) (Free.str B) (by decide +kernel) rfl) pa_nil)))))) (pss_one (ps_ret pe_bl)) pss_nil) <|
        pss_cons (ps_par (i := 4) (j := 5) rfl scFi.nd rfl rfl (by decide) rfl rfl (pa_cons (pe_ix ix_tup (pv 3) pe_int (fun _ _ => rfl)) (pa_cons (pe_callB call_len_seq (by rfl) (Free.len B) PySem.boot_len (pa_cons (pv 3) pa_nil)) pa_nil)) (by rfl)) <|
        pss_cons (ps_if (pt_cmpR (r := rIn K false) op_in_seq (pv 4) (pe_tup (pa_cons pe_str (pa_cons pe_str pa_nil))) (by with_unfolding_all rfl))
          (pss_cons (ps_if (PW.pt <| pw_or (pt_cmpR op_ne (pv 5) pe_int (nomark _)) <| pw_or1 (pt_not (pt_val (pe_callB call_isi (by rfl) (Free.isinstance B) (by decide +kernel) (pa_cons (pe_ix ix_tup (pv 3) pe_int (fun _ _ => rfl)) (pa_cons (pe_bltn (v := .ty "tuple") (by rfl) (Free.tuple B) (by decide +kernel) rfl) pa_nil)))))) (pss_one (ps_ret pe_bl)) pss_nil) <|
          pss_one (ps_ret (pe_cmpR (op_eqNil hr.units) (pe_lc (own := [("_law_part", 9)]) (g := gName 9) rfl scFi.nd (pi_tup (pe_ix (r := rIxT K) ix_tup (pv 3) pe_int (fun _ _ => rfl))) (blkOk_by (N := nFi) (sc := defScope sFi) (by decide +kernel))
            (fun _ _ _ _ _ => pg_name (i := 9) scFi.nd rfl (Or.inl rfl) (Or.inr rfl)) (fun _ _ _ _ _ => pts_one (pt_not (pt_val (pe_fnc Rc hr (by omega) (by rfl) pass0 (pa_cons (pv 0) (pa_cons (pv 1) (pa_cons (pv 2) (pa_cons (pv 9) pa_nil))))))))
            (fun _ _ _ _ _ => pv 9)) (pe_lst pa_nil) (nomark _)))) pss_nil) <|
        pss_cons (ps_if (pt_cmpR op_eq (pv 4) pe_str (nomark _))
          (pss_one (ps_ret (pe_and (pe_cmpR op_ne (pv 2) pe_str (nomark _)) <| pe_and (pe_cmpR op_eq (pv 5) pe_int (nomark _)) <| pe_one (pe_fnc Rc hr (by omega) (by rfl) pass0 (pa_cons (pv 0) (pa_cons (pv 1) (pa_cons (pv 2) (pa_cons (pe_ix ix_tup (pv 3) pe_int (fun _ _ => rfl)) pa_nil)))))))) pss_nil) <|
        pss_cons (ps_if (PW.pt <| pw_or (pt_cmpR (r := rIn K true) op_notIn_seq (pv 4) (pe_tup (pa_cons pe_str (pa_cons pe_str (pa_cons pe_str pa_nil)))) (by with_unfolding_all rfl)) <| pw_or1 (pt_cmpR op_ne (pv 5) pe_int (nomark _))) (pss_one (ps_ret pe_bl)) pss_nil) <|
        pss_cons (ps_if (pt_cmpR op_eq (pv 4) pe_str (nomark _))
          (pss_cons (ps_if (PW.pt <| pw_or (pt_cmpR op_ne (pv 2) pe_str (nomark _)) <| pw_or (pt_not (pt_val (pe_fnc Io hr (by omega) (by rfl) pass0 (pa_cons (pv 0) (pa_cons (pe_ix ix_tup (pv 3) pe_int (fun _ _ => rfl)) pa_nil))))) <|
              pw_or1 (pt_not (pt_val (pe_fnc Rc hr (by omega) (by rfl) pass0 (pa_cons (pv 0) (pa_cons (pe_ix ix_tup (pv 3) pe_int (fun _ _ => rfl)) (pa_cons pe_str (pa_cons (pe_ix ix_tup (pv 3) pe_int (fun _ _ => rfl)) pa_nil))))))))
            (pss_one (ps_ret pe_bl)) pss_nil) <|
          pss_one (ps_ret (pe_fnc Rc hr (by omega) (by rfl) pass0 (pa_cons (pv 0) (pa_cons (pe_ix ix_tup (pv 3) pe_int (fun _ _ => rfl)) (pa_cons pe_str (pa_cons (pe_ix ix_tup (pv 3) pe_int (fun _ _ => rfl)) pa_nil))))))) pss_nil) <|
        fi_atm hr (by omega) B L Tm Am, ?_⟩
      refine ⟨v, rfl, v, .ty "tuple", _, _, isTup d, rfl, .ty _, shw_ty sh, kit_ty (kit_tup d), isTup d, rfl, ?_⟩
      cases sh with
      | non => exact q H (Same.refl H)
      | bl b => exact q H (Same.refl H)
      | int i => exact q H (Same.refl H)
      | str x => exact q H (Same.refl H)
      | lst e _ => exact q H (Same.refl H)
      | dct e => exact q H (Same.refl H)
      | @tup a xs ds e ha =>
        have sh0 : Shw H (.ref a) (.tuple ds) := .tup e ha
        refine iteF ⟨.ref a, rfl, le_line (by simp), fun N nN => ?_⟩
        have s1 := same_upd (p := N) (o := .tup []) nN
        refine ⟨xs, ⟨a, N, rfl, rfl, .inr ⟨SqT.of (s1 _ _ e), SqT.of upd_same⟩⟩, _, rfl, ?_⟩
        generalize upd H N (.tup []) = H1 at s1 ⊢
        cases ha with
        | nil => exact q H1 s1
        | @cons x0 xs' d0 ds' h0 ha' =>
          have e1 := s1 _ _ e
          refine iteF' rfl ⟨.ref a, rfl, a, _, 0, x0, rfl, rfl, SqT.of e1, at0 _ _, x0, .ty "str", _, _, isStrD d0, rfl, .ty _, shw_ty (Shw.same h0 s1), kit_ty (kit_strD d0), isStrD d0, rfl, ?_⟩
          cases h0 with
          | non => exact iteT (q H1 s1)
          | bl b => exact iteT (q H1 s1)
          | int i => exact iteT (q H1 s1)
          | lst e _ => exact iteT (q H1 s1)
          | tup e _ => exact iteT (q H1 s1)
          | dct e => exact iteT (q H1 s1)
          | str z =>
            have sh1 := Shw.same sh0 s1
            have ha1 := ShwAll.same ha' s1
            have ln : xs'.length = ds'.length := ShwAll.len ha'
            have D1 := D.same s1
            have q1 : ∀ H', Same H1 H' → Q (.bl (jf ps qs rs (n + 1) k own (.tuple (.str z :: ds')))) H' := fun H' s' => q H' (s1.trans s')
            have g1 : gdAll ds' = true := by
              simp only [gd, gdAll, Bool.and_eq_true] at g
              exact g.2.2
            have dpm : ∀ d ∈ ds', PyData.depth d ≤ n := fun d hd => by
              have := depth_mem (List.mem_cons_of_mem (.str z) hd)
              rw [depth_tup] at dp
              omega
            have lz : ∀ m : Nat, decide (V.int ((((V.str z :: xs').length : Nat)) : Int) = V.int ((m + 1 : Nat) : Int)) = decide (ds'.length = m) := fun m => decide_eq_decide.mpr (by
              rw [List.length_cons, ln]
              exact ⟨fun k => by have := V.int.inj k; omega, fun k => by rw [k]⟩)
            clear q dp g sh0 ha' e
            refine iteF ⟨.ref a, rfl, a, _, 0, .str z, rfl, rfl, SqT.of e1, at0 _ _, .ref a, rfl, a, _, rfl, .inr (SqT.of e1), ⟨_, _, rfl, ?_⟩⟩
            refine ⟨.str z, rfl, le_line (by simp), fun t nt => ⟨t, _, rfl, .inr (SqT.of upd_same), rfl, rfl, _, rfl, ?_⟩⟩
            have s2 := same_upd (p := t) (o := .tup [.str "and", .str "or"]) nt
            rw [inV_ao2]
            generalize upd H1 t (.tup [.str "and", .str "or"]) = H2 at s2 ⊢
            have D2 := D1.same s2
            have q2 : ∀ H', Same H2 H' → Q (.bl (jf ps qs rs (n + 1) k own (.tuple (.str z :: ds')))) H' := fun H' s' => q1 H' (s2.trans s')
            have ha2 := ShwAll.same ha1 s2
            have sh2 := Shw.same sh1 s2
            have e2 := s2 _ _ e1
            cases eao : decide (z = "and" ∨ z = "or") with
            | true =>
              have hz := of_decide_eq_true eao
              have q3 : ∀ H', Same H2 H' → Q (.bl (allPt (jf ps qs rs n k own) ds')) H' := fun H' s' => by
                have z := q2 H' s'
                rw [jf_ao hz] at z
                exact z
              refine iteT ⟨_, rfl, rfl, _, rfl, ?_⟩
              have el := lz 1
              rw [show decide (V.int ((((V.str z :: xs').length : Nat)) : Int) = V.int 2) = decide (ds'.length = 1) from el]
              cases e1l : decide (ds'.length = 1) with
              | false =>
                refine iteT ?_
                have z := q3 H2 (Same.refl _)
                have en : allPt (jf ps qs rs n k own) ds' = false := by
                  have h1 := of_decide_eq_false e1l
                  match ds', h1 with
                  | [], _ => rfl
                  | [_], h => exact absurd rfl h
                  | d :: _ :: _, _ => cases d <;> rfl
                rw [en] at z
                exact z
              | true =>
                refine iteF ?_
                match ds', of_decide_eq_true e1l, ha2, q3, dpm, g1 with
                | [d1], _, ha2, q3, dpm, g1 =>
                cases ha2 with
                | @cons x1 _ _ _ h1 hr1 =>
                cases hr1
                refine ⟨.ref a, rfl, a, _, 1, x1, rfl, rfl, SqT.of e2, at1 _ _ _, x1, .ty "tuple", _, _, isTup d1, rfl, .ty _, shw_ty h1, kit_ty (kit_tup d1), isTup d1, rfl, ?_⟩
                cases h1 with
                | non => exact iteT (q3 H2 (Same.refl _))
                | bl b => exact iteT (q3 H2 (Same.refl _))
                | int i => exact iteT (q3 H2 (Same.refl _))
                | str x => exact iteT (q3 H2 (Same.refl _))
                | lst e _ => exact iteT (q3 H2 (Same.refl _))
                | dct e => exact iteT (q3 H2 (Same.refl _))
                | @tup b ys es eb hb =>
                  have gE : es.length ≤ 1000 ∧ gdAll es = true := by
                    simp only [gdAll, gd, Bool.and_eq_true, decide_eq_true_eq] at g1
                    exact g1.1
                  have dE : ∀ d ∈ es, PyData.depth d ≤ n := fun d hd => by
                    have h1 := dpm _ List.mem_cons_self
                    have h2 := depth_mem hd
                    rw [depth_tup] at h1
                    omega
                  have lb := ShwAll.len hb
                  refine iteF ⟨.ref a, rfl, a, _, 1, .ref b, rfl, rfl, SqT.of e2, at1 _ _ _, b, rfl, ⟨_, SqT.of eb⟩, fun Dd nD => ?_⟩
                  refine lc_tupF (K := K) (fun d => !jf ps qs rs n k own d) eb nD (by omega) hb (fun y d H' QY QN hd shy s3 hy hn => ?_) (fun H3 ys3 s3 d3 sy3 => ?_)
                  · refine ⟨rfl, .ref l, rfl, x, rfl, .str (kdS k), rfl, y, rfl, l, ps, qs, rs, own, x, k, y, d, rfl, D2.same s3, hown, shy, gdAll_mem gE.2 hd, dE d hd, fun H4 s4 => ⟨_, rfl, ?_⟩⟩
                    cases e : jf ps qs rs n k own d with
                    | true => exact iteF (hn (by rw [e]; rfl) H4 s4)
                    | false => exact iteT ⟨_, rfl, hy (by rw [e]; rfl) H4 s4⟩
                  · refine ⟨le_line (by simp), fun N3 nN3 => ?_⟩
                    have s4 := same_upd (p := N3) (o := .lst []) nN3
                    refine ⟨ys3, ⟨Dd, N3, rfl, rfl, .inl ⟨SqL.of (s4 _ _ d3), SqL.of upd_same⟩⟩, ?_⟩
                    rw [empty_len (ShwAll.len sy3), filter_all]
                    have z := q3 _ (s3.trans s4)
                    have en : allPt (jf ps qs rs n k own) [.tuple es] = es.all fun d => !!jf ps qs rs n k own d := by
                      simp only [Bool.not_not]
                      rfl
                    rw [en] at z
                    exact z
            | false =>
              have hao := of_decide_eq_false eao
              refine iteF ⟨.str z, rfl, rfl, _, rfl, ite2 (fun en => ?_) (fun en => ?_)⟩
              · obtain rfl : z = "not" := V.str.inj (of_decide_eq_true en)
                refine ⟨.str (kdS k), rfl, rfl, _, rfl, ?_⟩
                rw [kd_guard, Bool.not_not]
                cases ek : decide (k ≠ .guard) with
                | false =>
                  have z := q2 H2 (Same.refl _)
                  have en : jf ps qs rs (n + 1) k own (.tuple (.str "not" :: ds')) = false := by
                    by_cases h : ds'.length = 1
                    · match ds', h with
                      | [d], _ =>
                        rw [jf_not1, ek]
                        rfl
                    · exact jf_not2 h
                  rw [en] at z
                  exact z
                | true =>
                  refine ⟨_, rfl, rfl, _, rfl, ?_⟩
                  have el := lz 1
                  rw [show decide (V.int ((((V.str (Str.ofString "not") :: xs').length : Nat)) : Int) = V.int 2) = decide (ds'.length = 1) from el]
                  cases e1l : decide (ds'.length = 1) with
                  | false =>
                    have z := q2 H2 (Same.refl _)
                    rw [jf_not2 (of_decide_eq_false e1l)] at z
                    exact z
                  | true =>
                    match ds', of_decide_eq_true e1l, ha2, q2, dpm, g1 with
                    | [d1], _, ha2, q2, dpm, g1 =>
                    cases ha2 with
                    | @cons x1 _ _ _ h1 hr1 =>
                    cases hr1
                    refine ⟨.ref l, rfl, x, rfl, .str (kdS k), rfl, .ref a, rfl, a, _, 1, x1, rfl, rfl, SqT.of e2, at1 _ _ _, l, ps, qs, rs, own, x, k, x1, d1, rfl, D2, hown, h1, gdAll_mem g1 List.mem_cons_self, dpm _ List.mem_cons_self, fun H4 s4 => ?_⟩
                    have z := q2 H4 s4
                    rw [jf_not1, ek, Bool.true_and] at z
                    exact z
              · have hnot : ¬ z = "not" := fun h => en (decide_eq_true (by rw [h]))
                refine ⟨.str z, rfl, le_line (by simp), fun t3 nt3 => ⟨t3, _, rfl, .inr (SqT.of upd_same), rfl, rfl, _, rfl, ?_⟩⟩
                have s3 := same_upd (p := t3) (o := .tup [.str "all", .str "pos", .str "val"]) nt3
                rw [inV_apv]
                generalize upd H2 t3 (.tup [.str "all", .str "pos", .str "val"]) = H3 at s3 ⊢
                have q3 : ∀ H', Same H3 H' → Q (.bl (jf ps qs rs (n + 1) k own (.tuple (.str z :: ds')))) H' := fun H' s' => q2 H' (s3.trans s')
                cases ew : decide (z = "all" ∨ z = "pos" ∨ z = "val") with
                | false =>
                  have hw := of_decide_eq_false ew
                  have z := q3 H3 (Same.refl _)
                  rw [jf_else (fun h => hw (.inr (.inl h))) (fun h => hw (.inr (.inr h))) (fun h => hw (.inl h)) hnot hao] at z
                  exact iteT z
                | true =>
                  have hw := of_decide_eq_true ew
                  refine iteF ⟨_, rfl, rfl, _, rfl, ?_⟩
                  have el := lz 3
                  rw [show decide (V.int ((((V.str z :: xs').length : Nat)) : Int) = V.int 4) = decide (ds'.length = 3) from el]
                  cases e3l : decide (ds'.length = 3) with
                  | false =>
                    have z := q3 H3 (Same.refl _)
                    rw [jf_len hw (of_decide_eq_false e3l)] at z
                    exact iteT z
                  | true =>
                    have D3 := D2.same s3
                    have ha3 := ShwAll.same ha2 s3
                    have sh3 := Shw.same sh2 s3
                    have e3 := s3 _ _ e2
                    match ds', of_decide_eq_true e3l, ha3, q3, dpm, g1, sh3 with
                    | [o, gg, bb], _, ha3, q3, dpm, g1, sh3 =>
                    cases ha3 with
                    | @cons x1 _ _ _ h1 hr1 =>
                    cases hr1 with
                    | @cons x2 _ _ _ h2 hr2 =>
                    cases hr2 with
                    | @cons x3 _ _ _ h3 hr3 =>
                    cases hr3
                    refine iteF ⟨.str z, rfl, rfl, _, rfl, ite2 (fun ea => ?_) (fun ea => ?_)⟩
                    · obtain rfl : z = "all" := V.str.inj (of_decide_eq_true ea)
                      have q4 : ∀ H', Same H3 H' → Q (.bl (decide (k = .form) && (ownD ps qs rs o && (jf ps qs rs n .guard (strsD o) gg && jf ps qs rs n .body (strsD o) bb)))) H' := q3
                      refine ⟨.str (kdS k), rfl, rfl, _, rfl, ?_⟩
                      rw [kd_claim]
                      cases ek : decide (k = .form) with
                      | false =>
                        have z := q4 H3 (Same.refl _)
                        rw [ek] at z
                        exact iteT z
                      | true =>
                        rw [ek] at q4
                        simp only [Bool.true_and] at q4
                        have f1 := D3.f1
                        refine iteF ⟨.ref l, rfl, .ref a, rfl, a, _, 1, x1, rfl, rfl, SqT.of e3, at1 _ _ _, l, ps, qs, rs, x1, o, rfl, D3.pt, D3.f1, D3.f2, D3.f3, h1, gdAll_mem g1 List.mem_cons_self, fun H4 s4 => ⟨_, rfl, ?_⟩⟩
                        cases eo : ownD ps qs rs o with
                        | false =>
                          have z := q4 H4 s4
                          rw [eo] at z
                          exact iteT z
                        | true =>
                          rw [eo] at q4
                          simp only [Bool.true_and] at q4
                          obtain ⟨zs, rfl, lzs⟩ := own_is eo
                          rw [strs_back] at q4
                          obtain ⟨bo, os, rfl, ebo, hbo⟩ := shwT h1
                          have eos := strs_of hbo
                          subst eos
                          have mk : ∀ H', Same H3 H' → FiC H' l ps qs rs zs (.ref bo) := fun H' s' => ⟨(D3.same s').pt, D3.nd, D3.f1, D3.f2, D3.f3, ⟨bo, rfl, s' _ _ ebo⟩, by omega⟩
                          refine iteF ⟨.ref l, rfl, .ref a, rfl, a, _, 1, .ref bo, rfl, rfl, SqT.of (s4 _ _ e3), at1 _ _ _, .ref a, rfl, a, _, 2, x2, rfl, rfl, SqT.of (s4 _ _ e3), at2' _ _ _ _, l, ps, qs, rs, zs, .ref bo, .guard, x2, gg, rfl, mk H4 s4, (fun h => nomatch h), Shw.same h2 s4, gdAll_mem g1 (by simp), dpm _ (by simp), fun H5 s5 => ⟨_, rfl, ?_⟩⟩
                          cases eg : jf ps qs rs n .guard zs gg with
                          | false =>
                            have z := q4 H5 (s4.trans s5)
                            rw [eg] at z
                            exact iteT z
                          | true =>
                            rw [eg] at q4
                            simp only [Bool.true_and] at q4
                            have s45 := s4.trans s5
                            refine iteF ⟨.ref l, rfl, .ref a, rfl, a, _, 1, .ref bo, rfl, rfl, SqT.of (s45 _ _ e3), at1 _ _ _, .ref a, rfl, a, _, 3, x3, rfl, rfl, SqT.of (s45 _ _ e3), at3' _ _ _ _, l, ps, qs, rs, zs, .ref bo, .body, x3, bb, rfl, mk H5 s45, (fun h => nomatch h), Shw.same h3 s45, gdAll_mem g1 (by simp), dpm _ (by simp), fun H6 s6 => q4 H6 (s45.trans s6)⟩
                    · have hpv : z = "pos" ∨ z = "val" := by
                        rcases hw with h | h
                        · exact absurd (decide_eq_true (by rw [h])) ea
                        · exact h
                      refine ⟨l, ps, qs, rs, own, x, .ref a, k, z, o, gg, bb, rfl, hpv, D3, sh3, hown, fun H' s' => ?_⟩
                      have z := q3 H' s'
                      rw [jf_atm hpv] at z
                      exact z
end
end K03

set_option autoImplicit false
set_option maxRecDepth 100000
set_option maxHeartbeats 4000000
/-! comprehensions with two for, over data -/
namespace KX
open PySem PySem.Spec PyProof.Rows L2
/-- a walk that gives these values -/
def Steady (J : It) (xs : List V) (Ok : Hp → Prop) : Prop :=
  (∀ H, Ok H → J.stop xs.length H) ∧ (∀ i H, Ok H → i < xs.length → J.go i H) ∧ ∀ i H x H', Ok H → J.yld i H x H' → H' = H ∧ (i < xs.length → xs[i]? = some x)
theorem steady_l (K : PySem.W.Frag) (a : Addr) (xs : List V) : Steady (Itl K a) xs (fun H => SqL K H a xs) :=
  ⟨fun H q => ⟨xs, q, Nat.le_refl _⟩, fun i H q h => ⟨xs, xs[i], q, by simp [h]⟩, fun i H x H' q y => ⟨y.1, fun h => y.2 xs q⟩⟩
theorem steady_t (K : PySem.W.Frag) (a : Addr) (xs : List V) : Steady (Itt K a) xs (fun H => SqT K H a xs) :=
  ⟨fun H q => ⟨xs, q, Nat.le_refl _⟩, fun i H q h => ⟨xs, xs[i], q, by simp [h]⟩, fun i H x H' q y => ⟨y.1, fun h => y.2 xs q⟩⟩
theorem lc2_in {J1 : It} {ys : List V} {Ok1 : Hp → Prop} {g1 : TG} {tt1 : TT} {te : TE} {vs1 : List Nat} {σ2 : L2.St} {H4 : Hp} {D : Addr} {Nx : Hp → Prop} (S : Steady J1 ys Ok1) (Pv : Nat → Hp → Prop) (ok : ∀ j H, j ≤ ys.length → Pv j H → Ok1 H) (h0 : Pv 0 H4)
    (hs : ∀ j y H, ys[j]? = some y → Pv j H → g1 y (wipe σ2 vs1) H fun σ3 H5 => wipe σ3 vs1 = wipe σ2 vs1 ∧ tt1 σ3 H5 fun b H6 =>
      if b = true then te σ3 H6 fun z H7 => ∃ acc, H7 D = some (.lst acc) ∧ acc.length < sizeLine ∧ Pv (j + 1) (upd H7 D (.lst (acc ++ [z]))) else Pv (j + 1) H6) (hd : ∀ H, Pv ys.length H → Nx H) :
    ∃ W1 : Nat → Nat → Hp → Prop, (∃ m, W1 0 m H4) ∧ ∀ j k H, W1 j k H →
      (J1.stop j H ∧ Nx H) ∨ (J1.go j H ∧ ∃ Nx1 : Hp → Prop, (∀ H', Nx1 H' → ∃ k', k' < k ∧ W1 (j + 1) k' H') ∧ ∀ x H', J1.yld j H x H' → g1 x (wipe σ2 vs1) H' fun σ3 H5 => wipe σ3 vs1 = wipe σ2 vs1 ∧ tt1 σ3 H5 fun b H6 =>
        if b = true then te σ3 H6 fun y H7 => ∃ acc, H7 D = some (.lst acc) ∧ acc.length < sizeLine ∧ Nx1 (upd H7 D (.lst (acc ++ [y]))) else Nx1 H6) := by
  refine ⟨fun j k H => k = ys.length - j ∧ j ≤ ys.length ∧ Pv j H, ⟨ys.length, by simp, Nat.zero_le _, h0⟩, ?_⟩
  rintro j k H ⟨rfl, hj, p⟩
  have o := ok j H hj p
  by_cases lt : j < ys.length
  · refine .inr ⟨S.2.1 j H o lt, Pv (j + 1), fun H' p' => ⟨ys.length - (j + 1), by omega, rfl, lt, p'⟩, fun x H' y => ?_⟩
    obtain ⟨rfl, e⟩ := S.2.2 j H x H' o y
    exact hs j x _ (e lt) p
  · have e : j = ys.length := by omega
    subst e
    exact .inl ⟨S.1 H o, hd H p⟩
theorem lc2_out {J : It} {xs : List V} {Ok : Hp → Prop} {g : TG} {tt : TT} {wi1 : TI} {g1 : TG} {tt1 : TT} {te : TE} {vs vs1 : List Nat} {σ : L2.St} {H1 : Hp} {D : Addr} {Qd : Hp → Prop} (S : Steady J xs Ok) (Pv : Nat → Hp → Prop) (ok : ∀ j H, j ≤ xs.length → Pv j H → Ok H) (h0 : Pv 0 (upd H1 D (.lst [])))
    (hs : ∀ i x H, xs[i]? = some x → Pv i H → g x (wipe σ vs) H fun σ2 H2 => wipe σ2 vs = wipe σ vs ∧ tt σ2 H2 fun b H3 =>
      if b = true then wi1 σ2 H3 fun J1 H4 => ∃ W1 : Nat → Nat → Hp → Prop, (∃ m, W1 0 m H4) ∧ ∀ j k H, W1 j k H →
        (J1.stop j H ∧ Pv (i + 1) H) ∨ (J1.go j H ∧ ∃ Nx1 : Hp → Prop, (∀ H', Nx1 H' → ∃ k', k' < k ∧ W1 (j + 1) k' H') ∧ ∀ x H', J1.yld j H x H' → g1 x (wipe σ2 vs1) H' fun σ3 H5 => wipe σ3 vs1 = wipe σ2 vs1 ∧ tt1 σ3 H5 fun b H6 =>
          if b = true then te σ3 H6 fun y H7 => ∃ acc, H7 D = some (.lst acc) ∧ acc.length < sizeLine ∧ Nx1 (upd H7 D (.lst (acc ++ [y]))) else Nx1 H6)
      else Pv (i + 1) H3) (hd : ∀ H, Pv xs.length H → Qd H) :
    ∃ W : Nat → Nat → Hp → Prop, (∃ m, W 0 m (upd H1 D (.lst []))) ∧ ∀ i m H, W i m H →
      (J.stop i H ∧ Qd H) ∨ (J.go i H ∧ ∃ Nx : Hp → Prop, (∀ H', Nx H' → ∃ m', m' < m ∧ W (i + 1) m' H') ∧ ∀ x H', J.yld i H x H' → g x (wipe σ vs) H' fun σ2 H2 => wipe σ2 vs = wipe σ vs ∧ tt σ2 H2 fun b H3 =>
        if b = true then wi1 σ2 H3 fun J1 H4 => ∃ W1 : Nat → Nat → Hp → Prop, (∃ m, W1 0 m H4) ∧ ∀ j k H, W1 j k H →
          (J1.stop j H ∧ Nx H) ∨ (J1.go j H ∧ ∃ Nx1 : Hp → Prop, (∀ H', Nx1 H' → ∃ k', k' < k ∧ W1 (j + 1) k' H') ∧ ∀ x H', J1.yld j H x H' → g1 x (wipe σ2 vs1) H' fun σ3 H5 => wipe σ3 vs1 = wipe σ2 vs1 ∧ tt1 σ3 H5 fun b H6 =>
            if b = true then te σ3 H6 fun y H7 => ∃ acc, H7 D = some (.lst acc) ∧ acc.length < sizeLine ∧ Nx1 (upd H7 D (.lst (acc ++ [y]))) else Nx1 H6)
        else Nx H3) := by
  refine ⟨fun j k H => k = xs.length - j ∧ j ≤ xs.length ∧ Pv j H, ⟨xs.length, by simp, Nat.zero_le _, h0⟩, ?_⟩
  rintro j k H ⟨rfl, hj, p⟩
  have o := ok j H hj p
  by_cases lt : j < xs.length
  · refine .inr ⟨S.2.1 j H o lt, Pv (j + 1), fun H' p' => ⟨xs.length - (j + 1), by omega, rfl, lt, p'⟩, fun x H' y => ?_⟩
    obtain ⟨rfl, e⟩ := S.2.2 j H x H' o y
    exact hs j x _ (e lt) p
  · have e : j = xs.length := by omega
    subst e
    exact .inl ⟨S.1 H o, hd H p⟩
end KX

set_option autoImplicit false
set_option maxRecDepth 100000
set_option maxHeartbeats 4000000
/-! comprehensions with two for: lists of lists of data, put together -/
namespace K03
open PySem PySem.Spec PyProof.Rows L2 KX
theorem none_back {H H' : Hp} {p : Addr} (s : Same H H') (n : H' p = none) : H p = none := by
  cases e : H p with
  | none => rfl
  | some o => rw [s _ _ e] at n; cases n
theorem cqAll_app {a b : List PyData} (h1 : cqAll a = true) (h2 : cqAll b = true) : cqAll (a ++ b) = true := by
  induction a with
  | nil => exact h2
  | cons x a ih =>
    simp only [List.cons_append, cqAll, Bool.and_eq_true] at h1 ⊢
    exact ⟨h1.1, ih h1.2⟩
theorem cqAll_mem : ∀ {ds : List PyData} {d : PyData}, cqAll ds = true → d ∈ ds → cq d = true
  | y :: ys, d, h, m => by
    simp only [cqAll, Bool.and_eq_true] at h
    rcases List.mem_cons.mp m with rfl | m
    · exact h.1
    · exact cqAll_mem h.2 m
theorem cqAll_sub {ds : List PyData} {T : PyData → Bool} (h : cqAll ds = true) : cqAll (ds.filter T) = true := cqAll_of fun _ hd => cqAll_mem h (List.mem_filter.mp hd).1
theorem cqAll_take {ds : List PyData} {m : Nat} (h : cqAll ds = true) : cqAll (ds.take m) = true := cqAll_of fun _ hd => cqAll_mem h (List.mem_of_mem_take hd)
theorem cqAll_flat {ds : List PyData} {G : PyData → List PyData} (h : ∀ d ∈ ds, cqAll (G d) = true) : cqAll (ds.flatMap G) = true := cqAll_of fun x hx => by
  obtain ⟨d, hd, hx⟩ := List.mem_flatMap.mp hx
  exact cqAll_mem (h d hd) hx
theorem lc2_flat {J : It} {xs : List V} {ds : List PyData} {Ok : Hp → Prop} {g : TG} {wi1 : TI} {g1 : TG} {tt1 : TT} {te : TE} {vs vs1 : List Nat} {σ : L2.St} {Hb : Hp} {D : Addr} {Qd : Hp → Prop} (T : PyData → Bool) (G : PyData → List PyData)
    (S : Steady J xs Ok) (okS : ∀ H', Same Hb H' → Ok H') (nD : Hb D = none) (shx : ShwAll Hb xs ds) (cqG : ∀ d ∈ ds, cqAll (G d) = true) (few : (ds.flatMap G).length ≤ 100000)
    (hs : ∀ (x : V) (d : PyData) (H : Hp) (R : L2.St → It → Hp → Prop), d ∈ ds → Shw H x d → Same Hb H → (∃ zs, H D = some (.lst zs)) →
      (∀ (σ2 : L2.St) (J1 : It) (H4 : Hp) (ys : List V) (es : List PyData) (Ok1 : Hp → Prop), Steady J1 ys Ok1 → (∀ H', Grw D H4 H' → Ok1 H') → Same H H4 → ShwAll H4 ys es → cqAll es = true → G d = es.filter T →
        (∀ (y : V) (e : PyData) (H5 : Hp) (QY : VK) (QN : Hp → Prop), e ∈ es → Shw H5 y e → Same Hb H5 → (T e = true → ∀ H6, Same H5 H6 → QY y H6) → (T e = false → ∀ H6, Same H5 H6 → QN H6) →
          g1 y (wipe σ2 vs1) H5 fun σ3 H6 => wipe σ3 vs1 = wipe σ2 vs1 ∧ tt1 σ3 H6 fun b H7 => if b = true then te σ3 H7 QY else QN H7) → R σ2 J1 H4) →
      g x (wipe σ vs) H fun σ2 H2 => wipe σ2 vs = wipe σ vs ∧ wi1 σ2 H2 (R σ2))
    (fin : ∀ (zs : List V) (H' : Hp), Same Hb H' → H' D = some (.lst zs) → ShwAll H' zs (ds.flatMap G) → Qd H') :
    ∃ W : Nat → Nat → Hp → Prop, (∃ m, W 0 m (upd Hb D (.lst []))) ∧ ∀ i m H, W i m H →
      (J.stop i H ∧ Qd H) ∨ (J.go i H ∧ ∃ Nx : Hp → Prop, (∀ H', Nx H' → ∃ m', m' < m ∧ W (i + 1) m' H') ∧ ∀ x H', J.yld i H x H' → g x (wipe σ vs) H' fun σ2 H2 => wipe σ2 vs = wipe σ vs ∧ tYes σ2 H2 fun b H3 =>
        if b = true then wi1 σ2 H3 fun J1 H4 => ∃ W1 : Nat → Nat → Hp → Prop, (∃ m, W1 0 m H4) ∧ ∀ j k H, W1 j k H →
          (J1.stop j H ∧ Nx H) ∨ (J1.go j H ∧ ∃ Nx1 : Hp → Prop, (∀ H', Nx1 H' → ∃ k', k' < k ∧ W1 (j + 1) k' H') ∧ ∀ x H', J1.yld j H x H' → g1 x (wipe σ2 vs1) H' fun σ3 H5 => wipe σ3 vs1 = wipe σ2 vs1 ∧ tt1 σ3 H5 fun b H6 =>
            if b = true then te σ3 H6 fun y H7 => ∃ acc, H7 D = some (.lst acc) ∧ acc.length < sizeLine ∧ Nx1 (upd H7 D (.lst (acc ++ [y]))) else Nx1 H6)
        else Nx H3) := by
  have ln := ShwAll.len shx
  have nt : ∀ {H : Hp} {zs zs' : List V}, H D = some (.lst zs) → Tup H (upd H D (.lst zs')) := fun {H zs zs'} h b ys e => by
    rw [upd_ne (fun z => by rw [z, h] at e; cases e)]
    exact e
  have pre : ∀ i, (ds.take (i + 1)).flatMap G = (ds.take i).flatMap G ++ (match ds[i]? with | some d => G d | none => []) := fun i => by
    rw [List.take_add_one, List.flatMap_append]
    congr 1
    cases ds[i]? with
    | none => rfl
    | some d => simp
  have le : ∀ i, ((ds.take i).flatMap G).length ≤ (ds.flatMap G).length := fun i => by
    have e : ds.flatMap G = (ds.take i).flatMap G ++ (ds.drop i).flatMap G := by rw [← List.flatMap_append, List.take_append_drop]
    rw [e, List.length_append]
    omega
  have cqT : ∀ i, cqAll ((ds.take i).flatMap G) = true := fun i => cqAll_flat fun d hd => cqG d (List.mem_of_mem_take hd)
  refine lc2_out S (fun i H' => Same Hb H' ∧ ∃ zs, H' D = some (.lst zs) ∧ ShwAll H' zs ((ds.take i).flatMap G)) (fun i H' _ p => okS H' p.1) ⟨same_upd nD, [], upd_same, by rw [List.take_zero]; exact .nil⟩ (fun i x H hx p => ?_) (fun H p => ?_)
  · obtain ⟨s1, zs, hD, sz⟩ := p
    obtain ⟨d, hd, sd⟩ := ShwAll.get shx hx
    have hmem := List.mem_of_getElem? hd
    have e1 : (ds.take (i + 1)).flatMap G = (ds.take i).flatMap G ++ G d := by rw [pre i, hd]
    refine hs x d H (fun σ2 J1 H4 => ∃ W1 : Nat → Nat → Hp → Prop, (∃ m, W1 0 m H4) ∧ ∀ j k H, W1 j k H → _) hmem (Shw.same sd s1) s1 ⟨zs, hD⟩ fun σ2 J1 H4 ys es Ok1 S1 ok1 s4 sy cqe eG inner => ?_
    have ly := ShwAll.len sy
    have s14 := s1.trans s4
    refine lc2_in S1 (fun j H' => Grw D H4 H' ∧ ∃ ws, H' D = some (.lst ws) ∧ ShwAll H' ws ((ds.take i).flatMap G ++ (es.take j).filter T)) (fun j H' _ p => ok1 H' p.1) ⟨Grw.of (Same.refl _), zs, s4 _ _ hD, by rw [List.take_zero]; exact ShwAll.same (by rw [List.filter_nil, List.append_nil]; exact sz) s4⟩ (fun j y H5 hy p => ?_) (fun H5 p => ?_)
    · obtain ⟨g5, ws, hw, sw⟩ := p
      obtain ⟨e, he, se⟩ := ShwAll.get sy hy
      have sb5 : Same Hb H5 := fun b o h => g5 b o (ne_of_none h nD) (s14 b o h)
      have t45 : Tup H4 H5 := fun b ys h => g5 b _ (fun z => by rw [z, s4 _ _ hD] at h; cases h) h
      have cqe1 := cqAll_mem cqe (List.mem_of_getElem? he)
      have nx : (es.take (j + 1)).filter T = (es.take j).filter T ++ (if T e = true then [e] else []) := by
        rw [List.take_add_one, he, List.filter_append]
        congr 1
        cases h : T e <;> simp [h]
      have cqw : cqAll ((ds.take i).flatMap G ++ (es.take j).filter T) = true := cqAll_app (cqT i) (cqAll_sub (cqAll_take cqe))
      have lw : ((ds.take i).flatMap G ++ (es.take j).filter T).length ≤ 100000 := by
        have a := le (i + 1)
        rw [e1, eG, List.length_append] at a
        have b : ((es.take j).filter T).length ≤ (es.filter T).length := by
          have e : es.filter T = (es.take j).filter T ++ (es.drop j).filter T := by rw [← List.filter_append, List.take_append_drop]
          rw [e, List.length_append]
          omega
        rw [List.length_append]
        omega
      refine inner y e H5 _ _ (List.mem_of_getElem? he) (Shw.tupd t45 cqe1 se) sb5 (fun ht H6 s6 => ⟨ws, s6 _ _ hw, ?_, fun b o nb h => ?_, ws ++ [y], upd_same, ?_⟩) (fun ht H6 s6 => ⟨fun b o nb h => s6 _ _ (g5 b o nb h), ws, s6 _ _ hw, ?_⟩)
      · have := ShwAll.len sw
        rw [sizeLine_eq]
        omega
      · rw [upd_ne nb]
        exact s6 _ _ (g5 b o nb h)
      · rw [nx, if_pos ht, ← List.append_assoc]
        refine ShwAll.snoc (ShwAll.tupd (nt (s6 _ _ hw)) cqw (ShwAll.same sw s6)) ?_
        exact Shw.tupd (fun b ys h => by
          have := s6 _ _ (t45 b ys h)
          exact nt (s6 _ _ hw) b ys this) cqe1 se
      · rw [nx, if_neg (by rw [ht]; exact Bool.false_ne_true), List.append_nil]
        exact ShwAll.same sw s6
    · obtain ⟨g5, ws, hw, sw⟩ := p
      rw [ly, List.take_length, ← eG, ← e1] at sw
      exact ⟨fun b o h => g5 b o (ne_of_none h nD) (s14 b o h), ws, hw, sw⟩
  · obtain ⟨s1, zs, hD, sz⟩ := p
    rw [ln, List.take_length] at sz
    exact fin zs H s1 hD sz
end K03

set_option autoImplicit false
set_option maxRecDepth 100000
set_option maxHeartbeats 4000000
/-! check_claim; the atoms of a claim -/
namespace K03
open PySem PySem.Spec PyProof.Rows L2 KX
abbrev sCc : Stmt := topS 44
theorem scCc : FnScope ["frame", "claim"] ["frame", "claim"] (defScope sCc) := ⟨rfl, rfl, rfl, by decide +kernel, rfl, by decide +kernel, by decide +kernel⟩
def spCc (C : Addr) : Sp := fun vs H Q _ => ∃ (p : Addr) (v1 v2 v3 : V) (ps : List (Str × Str)) (qs rs : List Str) (v : V) (d : PyData), vs = [.ref p, v] ∧ FrameAt C H p v1 v2 v3 ps qs rs ∧ Shw H v d ∧ gd d = true ∧ jf ps qs rs 12 .form [] d = true ∧
  ∀ H', Same H H' → Q .non H'
section
variable {P : Program} {w : World} {K : PySem.W.Frag} {mg : Str → Option Value} {base : Heap}
theorem ok_cc {f C : Addr} {fd : FuncData} (F : Fun K "check_claim" "check_claim" sCc f fd) (Ic : Fnc P w K mg base CX0 21 "is_claim" ["frame", "value"] (spIc C)) : FnOk P w K mg base CX0 22 f fd ["frame", "claim"] (spCc C) := by
  refine F.ok scCc (fun vs H Q E h => ?_) (fun cdv A outer s H vs Q E hr h => ?_)
  · obtain ⟨p, v1, v2, v3, ps, qs, rs, v, d, rfl, _⟩ := h
    rfl
  · obtain ⟨p, v1, v2, v3, ps, qs, rs, v, d, rfl, Fr, sh, g, j, q⟩ := h
    refine ⟨_, pss_one (ps_if (pt_not (pt_val (pe_fnc Ic hr (by omega) (by rfl) pass0 (pa_cons (pv 0) (pa_cons (pv 1) pa_nil))))) (pss_one ps_never) pss_nil), ?_⟩
    refine ⟨.ref p, rfl, v, rfl, p, v1, v2, v3, ps, qs, rs, v, d, rfl, Fr, sh, g, fun H' s' => ⟨_, rfl, ?_⟩⟩
    rw [j]
    exact iteF (q H' s')
end
def atoms : Nat → PyData → List PyData
  | 0, _ => []
  | n + 1, .tuple (.str w :: ds) =>
    if w = "pos" ∨ w = "val" then [.tuple (.str w :: ds)]
    else if w = "not" then (match ds with
      | [d] => atoms n d
      | _ => [])
    else if w = "all" then (match ds with
      | [_, g, b] => atoms n g ++ atoms n b
      | _ => [])
    else (match ds with
      | [.tuple es] => es.flatMap (atoms n)
      | _ => [])
  | _ + 1, _ => []
section
variable {ps : List (Str × Str)} {qs rs own : List Str}
/-- what a right claim, guard or body looks like -/
theorem jf_cases {n : Nat} {k : Kd} {d : PyData} (h : jf ps qs rs (n + 1) k own d = true) :
    (∃ z o s t, d = .tuple [.str z, o, s, t] ∧ (z = "pos" ∨ z = "val") ∧ isOp o = true) ∨ (∃ d1, d = .tuple [.str "not", d1] ∧ jf ps qs rs n k own d1 = true) ∨
    (∃ o g b, d = .tuple [.str "all", o, g, b] ∧ jf ps qs rs n .guard (strsD o) g = true ∧ jf ps qs rs n .body (strsD o) b = true) ∨
    (∃ z es, d = .tuple [.str z, .tuple es] ∧ (z = "and" ∨ z = "or") ∧ ∀ e ∈ es, jf ps qs rs n k own e = true) := by
  obtain ⟨z, ds, rfl⟩ := jf_tup h
  by_cases hao : z = "and" ∨ z = "or"
  · rw [jf_ao hao] at h
    match ds, h with
    | [.tuple es], h => exact .inr (.inr (.inr ⟨z, es, rfl, hao, fun e he => List.all_eq_true.mp h e he⟩))
  · by_cases hn : z = "not"
    · subst hn
      by_cases l : ds.length = 1
      · match ds, l with
        | [d1], _ =>
          rw [jf_not1, Bool.and_eq_true] at h
          exact .inr (.inl ⟨d1, rfl, h.2⟩)
      · rw [jf_not2 l] at h
        cases h
    · by_cases hw : z = "all" ∨ z = "pos" ∨ z = "val"
      · by_cases l : ds.length = 3
        · match ds, l with
          | [o, g, b], _ =>
            rcases hw with rfl | hw
            · rw [jf_allk] at h
              simp only [Bool.and_eq_true] at h
              exact .inr (.inr (.inl ⟨o, g, b, rfl, h.2.2.1, h.2.2.2⟩))
            · refine .inl ⟨z, o, g, b, rfl, hw, ?_⟩
              rw [jf_atm hw] at h
              cases e : isOp o with
              | true => rfl
              | false =>
                rw [atm_noop e] at h
                cases h
        · rw [jf_len hw l] at h
          cases h
      · rw [jf_else (fun h => hw (.inr (.inl h))) (fun h => hw (.inr (.inr h))) (fun h => hw (.inl h)) hn hao] at h
        cases h
theorem atoms_atm {n : Nat} {z : Str} {ds : List PyData} (h : z = "pos" ∨ z = "val") : atoms (n + 1) (.tuple (.str z :: ds)) = [.tuple (.str z :: ds)] := by
  simp only [atoms, if_pos h]
theorem atoms_not {n : Nat} {d : PyData} : atoms (n + 1) (.tuple [.str "not", d]) = atoms n d := rfl
theorem atoms_all {n : Nat} {o g b : PyData} : atoms (n + 1) (.tuple [.str "all", o, g, b]) = atoms n g ++ atoms n b := rfl
theorem atoms_ao {n : Nat} {z : Str} {es : List PyData} (h : z = "and" ∨ z = "or") : atoms (n + 1) (.tuple [.str z, .tuple es]) = es.flatMap (atoms n) := by
  rcases h with rfl | rfl <;> rfl
theorem nn_mem {e : PyData} : ∀ {es : List PyData}, e ∈ es → nn e ≤ nnAll es
  | y :: ys, h => by
    simp only [nnAll]
    rcases List.mem_cons.mp h with rfl | h
    · omega
    · have := nn_mem h
      omega
theorem flat_len {G : PyData → List PyData} : ∀ {es : List PyData}, (∀ e ∈ es, (G e).length ≤ nn e) → (es.flatMap G).length ≤ nnAll es
  | [], _ => Nat.zero_le _
  | e :: es, h => by
    have h1 := h e List.mem_cons_self
    have h2 := flat_len fun y hy => h y (List.mem_cons_of_mem _ hy)
    rw [List.flatMap_cons, List.length_append]
    simp only [nnAll]
    omega
theorem cq_tup {ds : List PyData} (h : cq (.tuple ds) = true) : cqAll ds = true := by
  simp only [cq, Bool.and_eq_true] at h
  exact h.2.2
theorem atoms_ok : ∀ {n : Nat} {k : Kd} {own : List Str} {d : PyData}, jf ps qs rs n k own d = true → cq d = true → cqAll (atoms n d) = true ∧ (atoms n d).length ≤ nn d
  | 0, _, _, _, h, _ => by cases h
  | n + 1, k, own, d, h, c => by
    rcases jf_cases h with ⟨z, o, s, t, rfl, hz, _⟩ | ⟨d1, rfl, h1⟩ | ⟨o, g, b, rfl, h1, h2⟩ | ⟨z, es, rfl, hz, h1⟩
    · rw [atoms_atm hz]
      refine ⟨?_, ?_⟩
      · simp only [cqAll, c, Bool.and_self]
      · simp only [nn, List.length_cons, List.length_nil]
        omega
    · have c1 := cq_tup c
      simp only [cqAll, Bool.and_eq_true] at c1
      obtain ⟨a, b⟩ := atoms_ok h1 c1.2.1
      rw [atoms_not]
      refine ⟨a, ?_⟩
      simp only [nn, nnAll]
      omega
    · have c1 := cq_tup c
      simp only [cqAll, Bool.and_eq_true] at c1
      obtain ⟨a1, b1⟩ := atoms_ok h1 c1.2.2.1
      obtain ⟨a2, b2⟩ := atoms_ok h2 c1.2.2.2.1
      rw [atoms_all]
      refine ⟨cqAll_app a1 a2, ?_⟩
      rw [List.length_append]
      simp only [nn, nnAll]
      omega
    · have c1 := cq_tup c
      simp only [cqAll, Bool.and_eq_true] at c1
      have c2 := cq_tup c1.2.1
      have ih := fun e he => atoms_ok (h1 e he) (cqAll_mem c2 he)
      rw [atoms_ao hz]
      refine ⟨cqAll_flat fun e he => (ih e he).1, ?_⟩
      have := flat_len fun e he => (ih e he).2
      simp only [nn, nnAll]
      omega
end
abbrev sAi : Stmt := topS 41
abbrev nAi : List Str := ["claim", "word", "part", "atom"]
theorem scAi : FnScope nAi ["claim"] (defScope sAi) := ⟨rfl, rfl, rfl, by decide +kernel, rfl, by decide +kernel, by decide +kernel⟩
def spAi (n : Nat) : Sp := fun vs H Q _ => ∃ (v : V) (d : PyData) (k : Kd) (ps : List (Str × Str)) (qs rs own : List Str), vs = [v] ∧ Shw H v d ∧ cq d = true ∧ nn d ≤ 1000 ∧ jf ps qs rs n k own d = true ∧
  ∀ (l : Addr) (xs : List V) (H' : Hp), H l = none → Same H H' → H' l = some (.lst xs) → ShwAll H' xs (atoms n d) → Q (.ref l) H'
section
variable {P : Program} {w : World} {K : PySem.W.Frag} {mg : Str → Option Value} {base : Heap}
theorem ok_ai {f TA : Addr} {fd : FuncData} (F : Fun K "atoms_in" "atoms_in" sAi f fd) (hb : Binds K fd ["claim"] []) (hm : mg "atoms_in" = some (.ref f)) (gA : mg "ATOMS" = some (.ref TA)) (kA : ∀ H, SqT K H TA (atmW.map V.str)) (kT : Value.ref TA = Value.ref TA) :
    ∀ n, FnOk P w K mg base CX0 (1 + n) f fd ["claim"] (spAi n)
  | 0 => by
    refine F.ok scAi (fun vs H Q E h => ?_) (fun cdv A outer s H vs Q E hr h => ?_)
    · obtain ⟨v, d, k, ps, qs, rs, own, rfl, _⟩ := h
      rfl
    · obtain ⟨v, d, k, ps, qs, rs, own, rfl, _, _, _, j, _⟩ := h
      cases j
  | n + 1 => by
    have ih := ok_ai F hb hm gA kA kT n
    have Rc : Fnc P w K mg base CX0 (1 + n) "atoms_in" ["claim"] (spAi n) := ⟨⟨f, fd, ih, hb, hm, F.kp⟩⟩
    show FnOk P w K mg base CX0 ((1 + n) + 1) f fd _ _
    refine F.ok scAi (fun vs H Q E h => ?_) (fun cdv A outer s H vs Q E hr h => ?_)
    · obtain ⟨v, d, k, ps, qs, rs, own, rfl, _⟩ := h
      rfl
    · obtain ⟨v, d, k, ps, qs, rs, own, rfl, sh, c, few, j, q⟩ := h
      refine ⟨_, pss_cons (ps_set (i := 1) scAi.nd rfl (.inl rfl) (pe_ix ix_tup (pv 0) pe_int (fun _ _ => rfl))) <|
        pss_cons (ps_if (pt_cmpR (r := rIn K false) op_in_seq (pv 1) (pe_glob (v := .ref TA) (by rfl) gA rfl) (by with_unfolding_all rfl)) (pss_one (ps_ret (pe_lst (pa_cons (pv 0) pa_nil)))) pss_nil) <|
        pss_cons (ps_if (pt_cmpR op_eq (pv 1) pe_str (nomark _)) (pss_one (ps_ret (pe_fnc Rc hr (by omega) (by rfl) pass0 (pa_cons (pe_ix ix_tup (pv 0) pe_int (fun _ _ => rfl)) pa_nil)))) pss_nil) <|
        pss_cons (ps_if (pt_cmpR op_eq (pv 1) pe_str (nomark _)) (pss_one (ps_ret (pe_op op_cat (pe_fnc Rc hr (by omega) (by rfl) pass0 (pa_cons (pe_ix ix_tup (pv 0) pe_int (fun _ _ => rfl)) pa_nil)) (pe_fnc Rc hr (by omega) (by rfl) pass0 (pa_cons (pe_ix ix_tup (pv 0) pe_int (fun _ _ => rfl)) pa_nil))))) pss_nil) <|
        pss_one (ps_ret (pe_lc2 (own := [("part", 2), ("atom", 3)]) (vs1 := [3]) (g := gName 2) (g1 := gName 3) (tt := tYes) (tt1 := tYes) (wi1 := iList K (tCall (spAi n) [] E0 (tCons (tVar 2) tNil))) (te := tVar 3) rfl scAi.nd (pi_tup (pe_ix (r := rIxT K) ix_tup (pv 0) pe_int (fun _ _ => rfl))) (blkOk_by (N := nAi) (sc := defScope sAi) (by decide +kernel)) (by decide)
          (fun _ _ _ _ _ => pg_name (i := 2) scAi.nd rfl (Or.inl rfl) (Or.inr rfl)) (fun _ _ _ _ _ => pts_nil) (fun _ _ _ _ _ => pi_list (pe_fnc Rc hr (by omega) (by rfl) pass0 (pa_cons (pv 2) pa_nil)))
          (fun _ _ _ _ _ => pg_name (i := 3) scAi.nd rfl (Or.inl rfl) (Or.inr rfl)) (fun _ _ _ _ _ => pts_nil) (fun _ _ _ _ _ => pv 3))), ?_⟩
      have ci : ∀ z : Str, (if false = true then !inV (.str z) (atmW.map V.str) else inV (.str z) (atmW.map V.str)) = decide (z ∈ atmW) := fun z => by rw [if_neg (by decide), inV_strs]
      have sq : ∀ z w : Str, decide (V.str z = V.str w) = decide (z = w) := fun z w => decide_eq_decide.mpr ⟨fun k => V.str.inj k, fun k => congrArg V.str k⟩
      rcases jf_cases j with ⟨z, o, s, t, rfl, hz, _⟩ | ⟨d1, rfl, h1⟩ | ⟨o, g, b, rfl, h1, h2⟩ | ⟨z, es, rfl, hz, h1⟩
      · obtain ⟨b, xs, rfl, e, ha⟩ := shwT sh
        cases ha with
        | cons h0 ha' =>
        cases h0
        refine ⟨.ref b, rfl, b, _, 0, .str z, rfl, rfl, SqT.of e, at0 _ _, .str z, rfl, TA, _, rfl, .inr (kA H), rfl, flat_strs _, _, rfl, ?_⟩
        rw [ci, decide_eq_true (by unfold atmW; simpa using hz)]
        refine iteT ⟨.ref b, rfl, le_line (by simp), fun r nr => ?_⟩
        have w1 := same_upd (p := r) (o := .lst [.ref b]) nr
        refine q r [.ref b] _ nr w1 upd_same ?_
        rw [atoms_atm hz]
        exact .cons (Shw.same sh w1) .nil
      · obtain ⟨b, xs, rfl, e, ha⟩ := shwT sh
        have c1 := cq_tup c
        simp only [cqAll, Bool.and_eq_true] at c1
        cases ha with
        | cons h0 ha' =>
        cases h0
        cases ha' with
        | @cons x1 _ _ _ hx1 ha'' =>
        refine ⟨.ref b, rfl, b, _, 0, .str "not", rfl, rfl, SqT.of e, at0 _ _, .str "not", rfl, TA, _, rfl, .inr (kA H), rfl, flat_strs _, _, rfl, ?_⟩
        rw [ci, decide_eq_false (by decide)]
        refine iteF ⟨.str "not", rfl, rfl, _, rfl, iteT' (decide_eq_true rfl) ?_⟩
        refine ⟨.ref b, rfl, b, _, 1, x1, rfl, rfl, SqT.of e, at1 _ _ _, x1, d1, k, ps, qs, rs, own, rfl, hx1, c1.2.1, ?_, h1, fun l xs H' nl s hl sx => q l xs H' nl s hl (by rw [atoms_not]; exact sx)⟩
        simp only [nn, nnAll] at few
        omega
      · obtain ⟨bb, xs, rfl, e, ha⟩ := shwT sh
        have c1 := cq_tup c
        simp only [cqAll, Bool.and_eq_true] at c1
        have few2 := few
        simp only [nn, nnAll] at few2
        cases ha with
        | cons h0 ha' =>
        cases h0
        cases ha' with
        | @cons x1 _ _ _ hx1 ha2 =>
        cases ha2 with
        | @cons x2 _ _ _ hx2 ha3 =>
        cases ha3 with
        | @cons x3 _ _ _ hx3 ha4 =>
        cases ha4
        refine ⟨.ref bb, rfl, bb, _, 0, .str "all", rfl, rfl, SqT.of e, at0 _ _, .str "all", rfl, TA, _, rfl, .inr (kA H), rfl, flat_strs _, _, rfl, ?_⟩
        rw [ci, decide_eq_false (by decide)]
        refine iteF ⟨.str "all", rfl, rfl, _, rfl, iteF' (decide_eq_false (by intro k; exact absurd (V.str.inj k) (by decide))) ⟨.str "all", rfl, rfl, _, rfl, iteT' (decide_eq_true rfl) ?_⟩⟩
        refine ⟨.ref bb, rfl, bb, _, 2, x2, rfl, rfl, SqT.of e, at2' _ _ _ _, x2, g, .guard, ps, qs, rs, _, rfl, hx2, c1.2.2.1, by omega, h1, fun l1 xs1 H1 n1 s1 e1 sx1 => ?_⟩
        refine ⟨.ref bb, rfl, bb, _, 3, x3, rfl, rfl, SqT.of (s1 _ _ e), at3' _ _ _ _, x3, b, .body, ps, qs, rs, _, rfl, Shw.same hx3 s1, c1.2.2.2.1, by omega, h2, fun l2 xs2 H2 n2 s2 e2 sx2 => ?_⟩
        have o1 := atoms_ok h1 c1.2.2.1
        have o2 := atoms_ok h2 c1.2.2.2.1
        have ll1 := ShwAll.len sx1
        have ll2 := ShwAll.len sx2
        refine ⟨l1, l2, _, _, rfl, rfl, s2 _ _ e1, e2, le_line (by omega), fun r nr => ?_⟩
        have w3 := same_upd (p := r) (o := .lst (xs1 ++ xs2)) nr
        refine q r (xs1 ++ xs2) _ (none_back (s1.trans s2) nr) ((s1.trans s2).trans w3) upd_same ?_
        rw [atoms_all]
        exact ShwAll.append (ShwAll.same sx1 (s2.trans w3)) (ShwAll.same sx2 w3)
      · obtain ⟨b, xs, rfl, e, ha⟩ := shwT sh
        have c1 := cq_tup c
        simp only [cqAll, Bool.and_eq_true] at c1
        have c2 := cq_tup c1.2.1
        cases ha with
        | cons h0 ha' =>
        cases h0
        cases ha' with
        | @cons x1 _ _ _ hx1 ha2 =>
        cases ha2
        obtain ⟨b2, ys, rfl, e2, hb2⟩ := shwT hx1
        have nt : z ∉ atmW ∧ z ≠ "not" ∧ z ≠ "all" := by rcases hz with rfl | rfl <;> exact ⟨by decide, by decide, by decide⟩
        refine ⟨.ref b, rfl, b, _, 0, .str z, rfl, rfl, SqT.of e, at0 _ _, .str z, rfl, TA, _, rfl, .inr (kA H), rfl, flat_strs _, _, rfl, ?_⟩
        rw [ci, decide_eq_false nt.1]
        refine iteF ⟨.str z, rfl, rfl, _, rfl, iteF' (by rw [sq]; exact decide_eq_false nt.2.1) ⟨.str z, rfl, rfl, _, rfl, iteF' (by rw [sq]; exact decide_eq_false nt.2.2) ?_⟩⟩
        refine ⟨.ref b, rfl, b, _, 1, .ref b2, rfl, rfl, SqT.of e, at1 _ _ _, b2, rfl, ⟨_, SqT.of e2⟩, fun D nD => ?_⟩
        have ih2 := fun e he => atoms_ok (h1 e he) (cqAll_mem c2 he)
        have few2 : nnAll es ≤ 1000 := by
          simp only [nn, nnAll] at few
          omega
        have fl := flat_len fun e he => (ih2 e he).2
        refine lc2_flat (fun _ => true) (atoms n) (steady_t K b2 ys) (fun H' s => SqT.of (s _ _ e2)) nD hb2 (fun d hd => (ih2 d hd).1) (by omega) (fun x d H1 R hd sx s1 hz1 hR => ?_) (fun zs H1 s1 hD sz => ?_)
        · refine ⟨rfl, x, rfl, x, d, k, ps, qs, rs, own, rfl, sx, cqAll_mem c2 hd, by have := nn_mem hd; omega, h1 d hd, fun l xs H' nl s hl sxs => ⟨l, rfl, ⟨xs, SqL.of hl⟩, ?_⟩⟩
          obtain ⟨zs0, hz1⟩ := hz1
          have lD : l ≠ D := fun z => by rw [z, hz1] at nl; cases nl
          refine hR _ _ H' xs (atoms n d) _ (steady_l K l xs) (fun H'' g => SqL.of (g _ _ lD hl)) s sxs (ih2 d hd).1 (List.filter_eq_self.mpr fun _ _ => rfl).symm fun y e H5 QY QN he se s5 hy hn => ?_
          exact ⟨rfl, y, rfl, hy rfl H5 (Same.refl _)⟩
        · refine q D zs H1 nD s1 hD ?_
          rw [atoms_ao hz]
          exact sz
end
end K03

set_option autoImplicit false
set_option maxRecDepth 100000
set_option maxHeartbeats 4000000
/-! names_of -/
namespace K03
open PySem PySem.Spec PyProof.Rows L2 KX
theorem nnAll_app (a b : List PyData) : nnAll (a ++ b) = nnAll a + nnAll b := by
  induction a with
  | nil => show nnAll b = 0 + nnAll b; omega
  | cons x a ih =>
    rw [List.cons_append]
    simp only [nnAll]
    omega
theorem nn_pos (d : PyData) : 1 ≤ nn d := by
  cases d <;> simp only [nn] <;> omega
theorem len_nn : ∀ ds : List PyData, ds.length ≤ nnAll ds
  | [] => Nat.zero_le _
  | d :: ds => by
    have := len_nn ds
    have := nn_pos d
    rw [List.length_cons]
    simp only [nnAll]
    omega
theorem nn_flat {G : PyData → List PyData} : ∀ {es : List PyData}, (∀ e ∈ es, nnAll (G e) ≤ nn e) → nnAll (es.flatMap G) ≤ nnAll es
  | [], _ => Nat.le_refl _
  | e :: es, h => by
    have h1 := h e List.mem_cons_self
    have h2 := nn_flat fun y hy => h y (List.mem_cons_of_mem _ hy)
    rw [List.flatMap_cons, nnAll_app]
    simp only [nnAll]
    omega
theorem nn_filter (T : PyData → Bool) : ∀ ds : List PyData, nnAll (ds.filter T) ≤ nnAll ds
  | [] => Nat.le_refl _
  | d :: ds => by
    have := nn_filter T ds
    rw [List.filter_cons]
    split
    · simp only [nnAll]
      omega
    · simp only [nnAll]
      omega
theorem nn_drop : ∀ (m : Nat) (ds : List PyData), nnAll (ds.drop m) ≤ nnAll ds
  | 0, ds => by rw [List.drop_zero]; exact Nat.le_refl _
  | m + 1, [] => Nat.le_refl _
  | m + 1, d :: ds => by
    have := nn_drop m ds
    rw [List.drop_succ_cons]
    simp only [nnAll]
    omega
theorem atoms_nn {ps : List (Str × Str)} {qs rs : List Str} : ∀ {n : Nat} {k : Kd} {own : List Str} {d : PyData}, jf ps qs rs n k own d = true → nnAll (atoms n d) ≤ nn d
  | 0, _, _, _, h => by cases h
  | n + 1, k, own, d, h => by
    rcases jf_cases h with ⟨z, o, s, t, rfl, hz, _⟩ | ⟨d1, rfl, h1⟩ | ⟨o, g, b, rfl, h1, h2⟩ | ⟨z, es, rfl, hz, h1⟩
    · rw [atoms_atm hz]
      simp only [nn, nnAll]
      omega
    · have := atoms_nn h1
      rw [atoms_not]
      simp only [nn, nnAll]
      omega
    · have := atoms_nn h1
      have := atoms_nn h2
      rw [atoms_all, nnAll_app]
      simp only [nn, nnAll]
      omega
    · have := nn_flat (G := atoms n) fun e he => atoms_nn (h1 e he)
      rw [atoms_ao hz]
      simp only [nn, nnAll]
      omega
theorem atm_tup {ps : List (Str × Str)} {qs rs own : List Str} {z : Str} {o s t : PyData} {k : Kd} (h : atmJ ps qs rs own z [o, s, t] k = true) : ∃ ss ts, s = .tuple ss ∧ t = .tuple ts := by
  have hp : ∀ d, isPos ps qs rs own d = true → ∃ ss, d = .tuple ss := fun d h => by
    obtain ⟨z, i, rfl⟩ := isPos_is h
    exact ⟨_, rfl⟩
  have hv : ∀ d, isVal ps qs rs own d = true → ∃ ss, d = .tuple ss := fun d h => by
    rcases isVal_is h with ⟨x, y, rfl⟩ | ⟨x, z, i, n, rfl⟩
    · exact ⟨_, rfl⟩
    · exact ⟨_, rfl⟩
  have p2 : atomP ps qs rs own [o, s, t] = true → ∃ ss ts, s = .tuple ss ∧ t = .tuple ts := fun h => by
    have h : (isOp o && (isPos ps qs rs own s && isPos ps qs rs own t)) = true := h
    simp only [Bool.and_eq_true] at h
    obtain ⟨a, ha⟩ := hp _ h.2.1
    obtain ⟨b, hb⟩ := hp _ h.2.2
    exact ⟨a, b, ha, hb⟩
  have v2 : atomV ps qs rs own [o, s, t] = true → ∃ ss ts, s = .tuple ss ∧ t = .tuple ts := fun h => by
    have h : (isOp o && (isVal ps qs rs own s && isVal ps qs rs own t)) = true := h
    simp only [Bool.and_eq_true] at h
    obtain ⟨a, ha⟩ := hv _ h.2.1
    obtain ⟨b, hb⟩ := hv _ h.2.2
    exact ⟨a, b, ha, hb⟩
  unfold atmJ at h
  split at h
  · cases k with
    | form => exact p2 h
    | guard => exact p2 (Bool.and_eq_true_iff.mp h).1
    | body => cases h
  · cases k with
    | form => exact v2 h
    | guard => cases h
    | body => exact v2 (Bool.and_eq_true_iff.mp h).1
theorem atoms_shape {ps : List (Str × Str)} {qs rs : List Str} : ∀ {n : Nat} {k : Kd} {own : List Str} {d : PyData}, jf ps qs rs n k own d = true → ∀ e ∈ atoms n d, ∃ z o s t, e = .tuple [.str z, o, .tuple s, .tuple t]
  | 0, _, _, _, h => by cases h
  | n + 1, k, own, d, h => by
    rcases jf_cases h with ⟨z, o, s, t, rfl, hz, _⟩ | ⟨d1, rfl, h1⟩ | ⟨o, g, b, rfl, h1, h2⟩ | ⟨z, es, rfl, hz, h1⟩
    · rw [jf_atm hz] at h
      obtain ⟨ss, ts, rfl, rfl⟩ := atm_tup h
      rw [atoms_atm hz]
      intro e he
      rw [List.mem_singleton] at he
      exact ⟨z, o, ss, ts, he⟩
    · rw [atoms_not]
      exact atoms_shape h1
    · rw [atoms_all]
      intro e he
      rcases List.mem_append.mp he with he | he
      · exact atoms_shape h1 e he
      · exact atoms_shape h2 e he
    · rw [atoms_ao hz]
      intro e he
      obtain ⟨x, hx, he⟩ := List.mem_flatMap.mp he
      exact atoms_shape (h1 x hx) e he
/-- the terms of an atom; the words of a term -/
def tmsOf : PyData → List PyData
  | .tuple ds => ds.drop 2
  | _ => []
def wdsOf (ws : List Str) : PyData → List PyData
  | .tuple ds => ds.filter (hasW ws)
  | _ => []
def cWords (ws : List Str) (n : Nat) (d : PyData) : List PyData := ((atoms n d).flatMap tmsOf).flatMap (wdsOf ws)
theorem tms_nn (d : PyData) : nnAll (tmsOf d) ≤ nn d := by
  cases d with
  | tuple ds =>
    have := nn_drop 2 ds
    simp only [tmsOf, nn]
    omega
  | _ => simp only [tmsOf, nnAll]; omega
theorem wds_nn (ws : List Str) (d : PyData) : nnAll (wdsOf ws d) ≤ nn d := by
  cases d with
  | tuple ds =>
    have := nn_filter (hasW ws) ds
    simp only [wdsOf, nn]
    omega
  | _ => simp only [wdsOf, nnAll]; omega
theorem cw_strs {ws : List Str} {n : Nat} {d : PyData} : ∃ zs : List Str, cWords ws n d = zs.map PyData.str ∧ ∀ z ∈ zs, z ∈ ws := by
  have h : ∀ x ∈ cWords ws n d, ∃ z, x = .str z ∧ z ∈ ws := fun x hx => by
    obtain ⟨t, _, hx⟩ := List.mem_flatMap.mp hx
    cases t with
    | tuple ds =>
      have := (List.mem_filter.mp hx).2
      cases x with
      | str z => exact ⟨z, rfl, of_decide_eq_true this⟩
      | _ => cases this
    | _ => cases hx
  revert h
  generalize cWords ws n d = ds
  intro h
  induction ds with
  | nil => exact ⟨[], rfl, fun z hz => by cases hz⟩
  | cons x ds ih =>
    obtain ⟨z, rfl, hz⟩ := h x List.mem_cons_self
    obtain ⟨zs, rfl, hzs⟩ := ih fun y hy => h y (List.mem_cons_of_mem _ hy)
    refine ⟨z :: zs, rfl, fun y hy => ?_⟩
    rcases List.mem_cons.mp hy with rfl | hy
    · exact hz
    · exact hzs y hy
theorem nodup_le : ∀ {m l : List Str}, m.Nodup → (∀ x ∈ m, x ∈ l) → m.length ≤ l.length
  | [], _, _, _ => Nat.zero_le _
  | x :: m, l, hm, h => by
    have hx := h x List.mem_cons_self
    obtain ⟨h1, h2⟩ := List.nodup_cons.mp hm
    have p := (List.perm_cons_erase hx).length_eq
    have := nodup_le (l := l.erase x) h2 fun y hy => (List.mem_erase_of_ne (fun z : y = x => h1 (by rw [← z]; exact hy))).mpr (h y (List.mem_cons_of_mem _ hy))
    rw [List.length_cons] at p ⊢
    omega
abbrev sNo : Stmt := topS 45
abbrev nNo : List Str := ["frame", "claim", "terms", "words", "atom", "term", "word"]
theorem scNo : FnScope nNo ["frame", "claim"] (defScope sNo) := ⟨rfl, rfl, rfl, by decide +kernel, rfl, by decide +kernel, by decide +kernel⟩
def spNo (C : Addr) : Sp := fun vs H Q _ => ∃ (p : Addr) (v1 v2 v3 : V) (ps : List (Str × Str)) (qs rs : List Str) (v : V) (d : PyData), vs = [.ref p, v] ∧ FrameAt C H p v1 v2 v3 ps qs rs ∧ Shw H v d ∧ cq d = true ∧ nn d ≤ 1000 ∧ jf ps qs rs 12 .form [] d = true ∧ (wordsOf ps qs rs).length ≤ 60 ∧
  ∀ (zs ys : List Str) (b : Addr) (H' : Hp), Same H H' → cWords (wordsOf ps qs rs) 12 d = zs.map PyData.str → ys.Perm (once zs) → sortedS ys = true → H' b = some (.tup (ys.map V.str)) → Q (.ref b) H'
section
variable {P : Program} {w : World} {K : PySem.W.Frag} {mg : Str → Option Value} {base : Heap}
theorem ok_no {f C : Addr} {fd : FuncData} (F : Fun K "names_of" "names_of" sNo f fd) (B : Free mg) (mS : mg "sorted" = none) (Cc : Fnc P w K mg base CX0 22 "check_claim" ["frame", "claim"] (spCc C)) (Ai : Fnc P w K mg base CX0 13 "atoms_in" ["claim"] (spAi 12)) (O : OM P w K mg base CX0 1 C "__contains__" ["self", "value"] (spIn C)) :
    FnOk P w K mg base CX0 23 f fd ["frame", "claim"] (spNo C) := by
  refine F.ok scNo (fun vs H Q E h => ?_) (fun cdv A outer s H vs Q E hr h => ?_)
  · obtain ⟨p, v1, v2, v3, ps, qs, rs, v, d, rfl, _⟩ := h
    rfl
  · obtain ⟨p, v1, v2, v3, ps, qs, rs, v, d, rfl, Fr, sh, c, few, j, fw, q⟩ := h
    refine ⟨_, pss_cons (ps_expr (pe_fnc Cc hr (by omega) (by rfl) pass0 (pa_cons (pv 0) (pa_cons (pv 1) pa_nil)))) <|
      pss_cons (ps_setLc2 (i := 2) (own := [("atom", 4), ("term", 5)]) (vs1 := [5]) (g := gName 4) (g1 := gName 5) (tt := tYes) (tt1 := tYes) (wi1 := iTup K (tSl (rSlA K) (tVar 4) (tPart (tC (.int 2))) tNoPart)) (te := tVar 5) rfl scNo.nd rfl rfl (sw_true rfl rfl rfl (by decide +kernel)) (pi_list (pe_fnc Ai hr (by omega) (by rfl) pass0 (pa_cons (pv 1) pa_nil))) (blkOk_by (N := nNo) (sc := defScope sNo) (by decide +kernel)) (by decide)
          (fun _ _ _ _ _ => pg_name (i := 4) scNo.nd rfl (Or.inl rfl) (Or.inr rfl)) (fun _ _ _ _ _ => pts_nil) (fun _ _ _ _ _ => pi_tup (pe_slice sl_tupA (pv 4) (po_some pe_int) po_none))
          (fun _ _ _ _ _ => pg_name (i := 5) scNo.nd rfl (Or.inl rfl) (Or.inr rfl)) (fun _ _ _ _ _ => pts_nil) (fun _ _ _ _ _ => pv 5)) <|
      pss_cons (ps_setLc2 (i := 3) (own := [("term", 5), ("word", 6)]) (vs1 := [6]) (g := gName 5) (g1 := gName 6) (tt := tYes) (tt1 := tTest (tOp (rInOwn C (spIn C) E0 false) (tVar 6) (tVar 0))) (wi1 := iTup K (tVar 5)) (te := tVar 6) rfl scNo.nd rfl rfl (sw_true rfl rfl rfl (by decide +kernel)) (pi_list (pv 2)) (blkOk_by (N := nNo) (sc := defScope sNo) (by decide +kernel)) (by decide)
          (fun _ _ _ _ _ => pg_name (i := 5) scNo.nd rfl (Or.inl rfl) (Or.inr rfl)) (fun _ _ _ _ _ => pts_nil) (fun _ _ _ _ _ => pi_tup (pv 5))
          (fun _ _ _ _ _ => pg_name (i := 6) scNo.nd rfl (Or.inl rfl) (Or.inr rfl)) (fun _ _ _ _ _ => pts_one (pt_cmpR (O.isIn hr (by omega) pass0) (pv 6) (pv 0) (by with_unfolding_all rfl))) (fun _ _ _ _ _ => pv 6)) <|
      pss_one (ps_ret ((pe_callTy call_tuple_of (by rfl) (Free.tuple B) (by decide +kernel) (pa_cons (pe_sortSet (by rfl) mS (by rfl) B.set (pv 3)) pa_nil)))), ?_⟩
    have o := atoms_ok j c
    have n1 := atoms_nn j
    have la := len_nn (atoms 12 d)
    have nt := nn_flat (G := tmsOf) (es := atoms 12 d) fun e _ => tms_nn e
    have lt := len_nn ((atoms 12 d).flatMap tmsOf)
    have nw := nn_flat (G := wdsOf (wordsOf ps qs rs)) (es := (atoms 12 d).flatMap tmsOf) fun e _ => wds_nn (wordsOf ps qs rs) e
    have lw := len_nn (((atoms 12 d).flatMap tmsOf).flatMap (wdsOf (wordsOf ps qs rs)))
    have cqt : ∀ e ∈ atoms 12 d, cqAll (tmsOf e) = true := fun e he => by
      have ce := cqAll_mem o.1 he
      cases e with
      | tuple ds => exact cqAll_of fun x hx => cqAll_mem (cq_tup ce) (List.mem_of_mem_drop hx)
      | _ => rfl
    have cqw : ∀ e ∈ (atoms 12 d).flatMap tmsOf, cqAll (wdsOf (wordsOf ps qs rs) e) = true := fun e he => by
      have ce := cqAll_mem (cqAll_flat cqt) he
      cases e with
      | tuple ds => exact cqAll_sub (cq_tup ce)
      | _ => rfl
    refine ⟨.ref p, rfl, v, rfl, p, v1, v2, v3, ps, qs, rs, v, d, rfl, Fr, sh, (cq_gd _ c).1, j, fun H1 s1 => ?_⟩
    refine ⟨v, rfl, v, d, .form, ps, qs, rs, [], rfl, Shw.same sh s1, c, few, j, fun l xs H2 nl s2 hl sxs => ⟨l, rfl, ⟨xs, SqL.of hl⟩, fun D nD => ?_⟩⟩
    have s12 := s1.trans s2
    refine lc2_flat (fun _ => true) tmsOf (steady_l K l xs) (fun H' s => SqL.of (s _ _ hl)) nD sxs cqt (by omega) (fun x e H3 R he sx s3 hz1 hR => ?_) (fun zs H3 s3 hD sz => ?_)
    · obtain ⟨z, o0, ss, ts, rfl⟩ := atoms_shape j e he
      obtain ⟨b, xs', rfl, eb, hb⟩ := shwT sx
      refine ⟨rfl, .ref b, rfl, 2, rfl, ?_⟩
      (first | (show tNoPart _ _ _; unfold tNoPart) | skip)
      refine cut_shw sx fun c2 H4 w4 sc => ?_
      have sc : Shw H4 c2 (.tuple [.tuple ss, .tuple ts]) := sc
      obtain ⟨bc, cs, rfl, ebc, hbc⟩ := shwT sc
      obtain ⟨zs0, hz1⟩ := hz1
      have bD : bc ≠ D := fun z => by rw [z, w4 _ _ hz1] at ebc; cases ebc
      refine ⟨bc, rfl, ⟨_, SqT.of ebc⟩, hR _ _ H4 cs [.tuple ss, .tuple ts] _ (steady_t K bc cs) (fun H'' g => SqT.of (g _ _ bD ebc)) w4 hbc (cqt _ he) (List.filter_eq_self.mpr fun _ _ => rfl).symm fun y e H5 QY QN he se s5 hy hn => ?_⟩
      exact ⟨rfl, y, rfl, hy rfl H5 (Same.refl _)⟩
    · have s13 := s12.trans s3
      refine ⟨.ref D, rfl, D, rfl, ⟨zs, SqL.of hD⟩, fun D2 nD2 => ?_⟩
      refine lc2_flat (hasW (wordsOf ps qs rs)) (wdsOf (wordsOf ps qs rs)) (steady_l K D zs) (fun H' s => SqL.of (s _ _ hD)) nD2 sz cqw (by omega) (fun x e H4 R he sx s4 hz1 hR => ?_) (fun ws H4 s4 hD2 sw => ?_)
      · obtain ⟨a0, ha0, he0⟩ := List.mem_flatMap.mp he
        obtain ⟨z, o0, ss, ts, rfl⟩ := atoms_shape j a0 ha0
        obtain ⟨us, rfl⟩ : ∃ us, e = .tuple us := by
          have he0 : e ∈ [PyData.tuple ss, .tuple ts] := he0
          simp only [List.mem_cons, List.not_mem_nil, or_false] at he0
          rcases he0 with h | h
          · exact ⟨_, h⟩
          · exact ⟨_, h⟩
        obtain ⟨b, xs', rfl, eb, hb⟩ := shwT sx
        obtain ⟨zs0, hz1⟩ := hz1
        have bD : b ≠ D2 := fun z => by rw [z, hz1] at eb; cases eb
        have cqu : cqAll us = true := cq_tup (cqAll_mem (cqAll_flat cqt) he)
        refine ⟨rfl, .ref b, rfl, b, rfl, ⟨_, SqT.of eb⟩, hR _ _ H4 xs' us _ (steady_t K b xs') (fun H'' g => SqT.of (g _ _ bD eb)) (Same.refl _) hb cqu rfl fun y w H5 QY QN hw sw s5 hy hn => ?_⟩
        have Fr5 := Fr.same (s13.trans s5)
        obtain ⟨dx, t, d2, e2, ob, _⟩ := id Fr5.ob
        refine ⟨rfl, y, rfl, .ref p, rfl, p, dx, _, rfl, ob, p, v1, v2, v3, ps, qs, rs, y, w, rfl, Fr5, sw, ⟨_, rfl, _, rfl, ?_⟩⟩
        rw [Bool.false_xor]
        cases ew : hasW (wordsOf ps qs rs) w with
        | true => exact iteT ⟨y, rfl, hy ew H5 (Same.refl _)⟩
        | false => exact iteF (hn ew H5 (Same.refl _))
      · obtain ⟨us, eu, hu⟩ := cw_strs (ws := wordsOf ps qs rs) (n := 12) (d := d)
        unfold cWords at eu
        rw [eu] at sw lw nw
        have ew := strs_of sw
        subst ew
        have fo : (once us).length < 64 := by
          have := nodup_le (once_nodup' us) (l := wordsOf ps qs rs) fun z hz => hu z (onceS_mem us z hz)
          omega
        refine ⟨.ref D2, rfl, D2, us, rfl, SqL.of hD2, ?_, fo, fun ys t pm so nt => ?_⟩
        · rw [List.length_map] at lw
          omega
        · have w5 := same_upd (p := t) (o := .lst (ys.map V.str)) nt
          refine ⟨t, _, rfl, .inl ⟨SqL.of upd_same, fun t2 nt2 => ?_⟩⟩
          have w6 := same_upd (p := t2) (o := .tup (ys.map V.str)) nt2
          exact q us ys t2 _ ((s13.trans s4).trans (w5.trans w6)) eu pm so upd_same
end
end K03

set_option autoImplicit false
set_option maxRecDepth 100000
set_option maxHeartbeats 4000000
/-! how deep a claim is, by the law -/
namespace K03
open PySem PySem.Spec PyProof.Rows L2 KX
def subs : PyData → List PyData
  | .tuple (.str w :: ds) =>
    if w = "pos" ∨ w = "val" then []
    else if w = "not" then (match ds with
      | [d] => [d]
      | _ => [])
    else if w = "all" then (match ds with
      | [_, g, b] => [g, b]
      | _ => [])
    else (match ds with
      | [.tuple es] => es
      | _ => [])
  | _ => []
def mx : List Nat → Nat
  | [] => 0
  | n :: ns => max n (mx ns)
def cd : Nat → PyData → Nat
  | 0, _ => 0
  | n + 1, d => 1 + mx ((subs d).map (cd n))
theorem mx_le {m : Nat} : ∀ {ns : List Nat}, mx ns ≤ m ↔ ∀ n ∈ ns, n ≤ m
  | [] => ⟨fun _ n h => (by cases h), fun _ => Nat.zero_le _⟩
  | n :: ns => by
    have ih := mx_le (m := m) (ns := ns)
    simp only [mx]
    constructor
    · intro h x hx
      rcases List.mem_cons.mp hx with rfl | hx
      · omega
      · exact ih.mp (by omega) x hx
    · intro h
      have a := h n List.mem_cons_self
      have b := ih.mpr fun x hx => h x (List.mem_cons_of_mem _ hx)
      omega
theorem mx_mem : ∀ ns : List Nat, mx ns = 0 ∨ mx ns ∈ ns
  | [] => .inl rfl
  | n :: ns => by
    simp only [mx]
    rcases Nat.le_total n (mx ns) with h | h
    · rw [Nat.max_eq_right h]
      rcases mx_mem ns with e | e
      · exact .inl e
      · exact .inr (List.mem_cons_of_mem _ e)
    · rw [Nat.max_eq_left h]
      exact .inr List.mem_cons_self
theorem mx_is {m : Int} {ns : List Nat} (h : m ∈ (0 : Int) :: ns.map Int.ofNat) (le : ∀ y ∈ (0 : Int) :: ns.map Int.ofNat, y ≤ m) : m = (mx ns : Nat) := by
  have h0 := le 0 List.mem_cons_self
  have a : mx ns ≤ m.toNat := mx_le.mpr fun n hn => by
    have := le (Int.ofNat n) (List.mem_cons_of_mem _ (List.mem_map.mpr ⟨n, hn, rfl⟩))
    have e : Int.ofNat n = (n : Int) := rfl
    rw [e] at this
    omega
  have b : m ≤ (mx ns : Nat) := by
    rcases List.mem_cons.mp h with rfl | h
    · omega
    · obtain ⟨n, hn, rfl⟩ := List.mem_map.mp h
      have := (mx_le (m := mx ns)).mp (Nat.le_refl _) n hn
      show (n : Int) ≤ _
      omega
  omega
section
variable {ps : List (Str × Str)} {qs rs own : List Str}
theorem subs_not {d : PyData} : subs (.tuple [.str "not", d]) = [d] := rfl
theorem subs_all {o g b : PyData} : subs (.tuple [.str "all", o, g, b]) = [g, b] := rfl
theorem subs_ao {z : Str} {es : List PyData} (h : z = "and" ∨ z = "or") : subs (.tuple [.str z, .tuple es]) = es := by rcases h with rfl | rfl <;> rfl
theorem subs_atm {z : Str} {ds : List PyData} (h : z = "pos" ∨ z = "val") : subs (.tuple (.str z :: ds)) = [] := by simp only [subs, if_pos h]
/-- a claim that is right in some depth is right from its own depth on, and in no smaller one -/
theorem jf_cd : ∀ (n : Nat) (k : Kd) (own : List Str) (d : PyData), jf ps qs rs n k own d = true → ∀ m, jf ps qs rs m k own d = decide (cd n d ≤ m)
  | 0, _, _, _, h, _ => by cases h
  | n + 1, k, own, d, _, 0 => by
    show false = _
    rw [decide_eq_false]
    show ¬ 1 + mx ((subs d).map (cd n)) ≤ 0
    omega
  | n + 1, k, own, d, h, m + 1 => by
    rcases jf_cases h with ⟨z, o, s, t, rfl, hz, _⟩ | ⟨d1, rfl, h1⟩ | ⟨o, g, b, rfl, h1, h2⟩ | ⟨z, es, rfl, hz, h1⟩
    · rw [jf_atm hz] at h ⊢
      rw [h, decide_eq_true]
      show 1 + mx ((subs _).map (cd n)) ≤ m + 1
      rw [subs_atm hz]
      show 1 + 0 ≤ m + 1
      omega
    · rw [jf_not1, Bool.and_eq_true] at h
      rw [jf_not1, h.1, Bool.true_and, jf_cd n k own d1 h1 m]
      refine decide_eq_decide.mpr ?_
      show _ ↔ 1 + mx ([d1].map (cd n)) ≤ m + 1
      show _ ↔ 1 + max (cd n d1) 0 ≤ m + 1
      omega
    · rw [jf_allk, Bool.and_eq_true, Bool.and_eq_true] at h
      rw [jf_allk, h.1, h.2.1, Bool.true_and, Bool.true_and, jf_cd n .guard _ g h1 m, jf_cd n .body _ b h2 m, ← Bool.decide_and]
      refine decide_eq_decide.mpr ?_
      show _ ↔ 1 + max (cd n g) (max (cd n b) 0) ≤ m + 1
      omega
    · have e : jf ps qs rs (m + 1) k own (.tuple [.str z, .tuple es]) = es.all (jf ps qs rs m k own) := by
        rw [jf_ao hz]
        rfl
      rw [e]
      have e2 : cd (n + 1) (.tuple [.str z, .tuple es]) = 1 + mx (es.map (cd n)) := by
        show 1 + mx ((subs _).map (cd n)) = _
        rw [subs_ao hz]
      rw [e2, Bool.eq_iff_iff, List.all_eq_true, decide_eq_true_eq]
      constructor
      · intro a
        have : mx (es.map (cd n)) ≤ m := mx_le.mpr fun x hx => by
          obtain ⟨y, hy, rfl⟩ := List.mem_map.mp hx
          have := a y hy
          rw [jf_cd n k own y (h1 y hy) m] at this
          exact of_decide_eq_true this
        omega
      · intro a y hy
        rw [jf_cd n k own y (h1 y hy) m]
        refine decide_eq_true ?_
        exact mx_le.mp (by omega : mx (es.map (cd n)) ≤ m) _ (List.mem_map.mpr ⟨y, hy, rfl⟩)
end
section
variable {ps : List (Str × Str)} {qs rs own : List Str}
theorem jf_shape {n : Nat} {k : Kd} {z : Str} {ds : List PyData} (h : jf ps qs rs (n + 1) k own (.tuple (.str z :: ds)) = true) :
    (z = "pos" ∨ z = "val") ∨ (z = "not" ∧ ∃ d1, ds = [d1]) ∨ (z = "all" ∧ ∃ o g b, ds = [o, g, b]) ∨ ((z = "and" ∨ z = "or") ∧ ∃ es, ds = [.tuple es]) := by
  rcases jf_cases h with ⟨z', o, s, t, e, hz, _⟩ | ⟨d1, e, h1⟩ | ⟨o, g, b, e, h1, h2⟩ | ⟨z', es, e, hz, h1⟩
  · cases e
    exact .inl hz
  · cases e
    exact .inr (.inl ⟨rfl, d1, rfl⟩)
  · cases e
    exact .inr (.inr (.inl ⟨rfl, o, g, b, rfl⟩))
  · cases e
    exact .inr (.inr (.inr ⟨hz, es, rfl⟩))
theorem subs_jf {n : Nat} {k : Kd} {d : PyData} (h : jf ps qs rs (n + 1) k own d = true) : ∀ e ∈ subs d, ∃ k' own', jf ps qs rs n k' own' e = true := by
  rcases jf_cases h with ⟨z', o, s, t, rfl, hz, _⟩ | ⟨d1, rfl, h1⟩ | ⟨o, g, b, rfl, h1, h2⟩ | ⟨z', es, rfl, hz, h1⟩
  · rw [subs_atm hz]
    exact fun e he => by cases he
  · rw [subs_not]
    intro e he
    rw [List.mem_singleton] at he
    subst he
    exact ⟨_, _, h1⟩
  · rw [subs_all]
    intro e he
    simp only [List.mem_cons, List.not_mem_nil, or_false] at he
    rcases he with rfl | rfl
    · exact ⟨_, _, h1⟩
    · exact ⟨_, _, h2⟩
  · rw [subs_ao hz]
    exact fun e he => ⟨_, _, h1 e he⟩
theorem subs_cq {n : Nat} {k : Kd} {d : PyData} (h : jf ps qs rs (n + 1) k own d = true) (c : cq d = true) : cqAll (subs d) = true ∧ (subs d).length ≤ 4 ∧ nnAll (subs d) ≤ nn d := by
  have l4 : ∀ es, cq (.tuple es) = true → es.length ≤ 4 := fun es h => by
    simp only [cq, Bool.and_eq_true, decide_eq_true_eq] at h
    exact h.1
  have c1 := c
  rcases jf_cases h with ⟨z', o, s, t, rfl, hz, _⟩ | ⟨d1, rfl, h1⟩ | ⟨o, g, b, rfl, h1, h2⟩ | ⟨z', es, rfl, hz, h1⟩
  · rw [subs_atm hz]
    exact ⟨rfl, by decide, Nat.zero_le _⟩
  · have c1 := cq_tup c
    simp only [cqAll, Bool.and_eq_true] at c1
    rw [subs_not]
    refine ⟨?_, by show 1 ≤ 4; decide, ?_⟩
    · simp only [cqAll, c1.2.1, Bool.and_self]
    · simp only [nn, nnAll]
      omega
  · have c1 := cq_tup c
    simp only [cqAll, Bool.and_eq_true] at c1
    rw [subs_all]
    refine ⟨?_, by show 2 ≤ 4; decide, ?_⟩
    · simp only [cqAll, c1.2.2.1, c1.2.2.2.1, Bool.and_self]
    · simp only [nn, nnAll]
      omega
  · have c1 := cq_tup c
    simp only [cqAll, Bool.and_eq_true] at c1
    rw [subs_ao hz]
    refine ⟨cq_tup c1.2.1, l4 _ c1.2.1, ?_⟩
    simp only [nn, nnAll]
    omega
end
abbrev sDp : Stmt := topS 66
abbrev nDp : List Str := ["_law_value", "_law_some", "_law_part"]
theorem scDp : FnScope nDp ["_law_value"] (defScope sDp) := ⟨rfl, rfl, rfl, by decide +kernel, rfl, by decide +kernel, by decide +kernel⟩
def spDp (n : Nat) : Sp := fun vs H Q _ => ∃ (v : V) (d : PyData) (k : Kd) (ps : List (Str × Str)) (qs rs own : List Str), vs = [v] ∧ Shw H v d ∧ cq d = true ∧ jf ps qs rs n k own d = true ∧ ∀ H', Same H H' → Q (.int (cd n d : Nat)) H'
theorem inV_pv (z : Str) : (if false = true then !inV (.str z) [.str "pos", .str "val"] else inV (.str z) [.str "pos", .str "val"]) = decide (z = "pos" ∨ z = "val") := by
  rw [if_neg Bool.false_ne_true]
  have := inV_strs z ["pos", "val"]
  simp only [List.map_cons, List.map_nil] at this
  rw [this]
  simp
theorem dec_str (z w : Str) : decide (V.str z = V.str w) = decide (z = w) := decide_eq_decide.mpr ⟨fun k => V.str.inj k, fun k => congrArg V.str k⟩
section
variable {P : Program} {w : World} {K : PySem.W.Frag} {mg : Str → Option Value} {base : Heap}
theorem ok_dp {f : Addr} {fd : FuncData} (F : Fun K "_law_depth" "_law_depth" sDp f fd) (hb : Binds K fd ["_law_value"] []) (hm : mg "_law_depth" = some (.ref f)) (B : Free mg) (mM : mg "max" = none) :
    ∀ n, FnOk P w K mg base CX0 (1 + n) f fd ["_law_value"] (spDp n)
  | 0 => by
    refine F.ok scDp (fun vs H Q E h => ?_) (fun cdv A outer s H vs Q E hr h => ?_)
    · obtain ⟨v, d, k, ps, qs, rs, own, rfl, _⟩ := h
      rfl
    · obtain ⟨v, d, k, ps, qs, rs, own, rfl, _, _, j, _⟩ := h
      cases j
  | n + 1 => by
    have ih := ok_dp F hb hm B mM n
    have Rc : Fnc P w K mg base CX0 (1 + n) "_law_depth" ["_law_value"] (spDp n) := ⟨⟨f, fd, ih, hb, hm, F.kp⟩⟩
    show FnOk P w K mg base CX0 ((1 + n) + 1) f fd _ _
    refine F.ok scDp (fun vs H Q E h => ?_) (fun cdv A outer s H vs Q E hr h => ?_)
    · obtain ⟨v, d, k, ps, qs, rs, own, rfl, _⟩ := h
      rfl
    · obtain ⟨v, d, k, ps, qs, rs, own, rfl, sh, c, j, q⟩ := h
      refine ⟨_, pss_cons (ps_if (pt_cmpR (r := rIn K false) op_in_seq (pe_ix ix_tup (pv 0) pe_int (fun _ _ => rfl)) (pe_tup (pa_cons pe_str (pa_cons pe_str pa_nil))) (by with_unfolding_all rfl)) (pss_one (ps_ret pe_int)) pss_nil) <|
        C8.pss_cut (ps_set (i := 1) scDp.nd rfl (.inl rfl) (pe_ifExp (pt_cmpR op_eq (pe_ix ix_tup (pv 0) pe_int (fun _ _ => rfl)) pe_str (nomark _)) (pe_lst (pa_cons (pe_ix ix_tup (pv 0) pe_int (fun _ _ => rfl)) pa_nil))
          (pe_ifExp (pt_cmpR op_eq (pe_ix ix_tup (pv 0) pe_int (fun _ _ => rfl)) pe_str (nomark _)) (pe_callTy call_list_of (by rfl) (Free.list B) (by decide +kernel) (pa_cons (pe_slice sl_tupA (pv 0) (po_some pe_int) po_none) pa_nil)) (pe_callTy call_list_of (by rfl) (Free.list B) (by decide +kernel) (pa_cons (pe_ix ix_tup (pv 0) pe_int (fun _ _ => rfl)) pa_nil))))) <|
        pss_one (ps_ret (pe_op op_add pe_int (pe_callB (cr_max rfl) (by rfl) mM (by decide +kernel) (pa_cons (pe_op op_cat (pe_lst (pa_cons pe_int pa_nil)) (pe_lc (own := [("_law_part", 2)]) (g := gName 2) (tt := tYes) (te := tCall (spDp n) [] E0 (tCons (tVar 2) tNil)) rfl scDp.nd (pi_list (pv 1)) (blkOk_by (N := nDp) (sc := defScope sDp) (by decide +kernel))
          (fun _ _ _ _ _ => pg_name (i := 2) scDp.nd rfl (Or.inl rfl) (Or.inr rfl)) (fun _ _ _ _ _ => pts_nil) (fun _ _ _ _ _ => (pe_fnc Rc hr (by omega) (by rfl) pass0 (pa_cons (pv 2) pa_nil))))) pa_nil)))), ?_⟩
      obtain ⟨z, ds, rfl⟩ := jf_tup j
      obtain ⟨b, xs, rfl, e, ha⟩ := shwT sh
      cases ha with
      | @cons _ xs' _ _ h0 ha' =>
      cases h0
      refine ⟨.ref b, rfl, b, _, 0, .str z, rfl, rfl, SqT.of e, at0 _ _, le_line (by simp), fun t nt => ⟨t, _, rfl, .inr (SqT.of upd_same), rfl, rfl, _, rfl, ?_⟩⟩
      have s1 := same_upd (p := t) (o := .tup [.str "pos", .str "val"]) nt
      rw [inV_pv]
      generalize upd H t (.tup [.str "pos", .str "val"]) = H1 at s1 ⊢
      have sh1 := Shw.same sh s1
      have e1 := s1 _ _ e
      have ha1 := ShwAll.same ha' s1
      cases ez : decide (z = "pos" ∨ z = "val") with
      | true =>
        have hz := of_decide_eq_true ez
        refine iteT ?_
        have en : cd (n + 1) (.tuple (.str z :: ds)) = 1 := by
          show 1 + mx ((subs _).map (cd n)) = 1
          rw [subs_atm hz]
          rfl
        have zq := q H1 s1
        rw [en] at zq
        exact zq
      | false =>
        have hz := of_decide_eq_false ez
        have sc := subs_cq j c
        have sj := subs_jf j
        refine iteF ⟨fun σ' H' => ∃ (l : Addr) (ys : List V), σ' = [some (.ref b), some (.ref l), none] ∧ H' l = some (.lst ys) ∧ Same H H' ∧ ShwAll H' ys (subs (.tuple (.str z :: ds))), ?_, ?_⟩
        · refine ⟨.ref b, rfl, b, _, 0, .str z, rfl, rfl, SqT.of e1, at0 _ _, rfl, _, rfl, ?_⟩
          rw [dec_str]
          rcases jf_shape j with h | ⟨rfl, d1, rfl⟩ | ⟨rfl, o, g, bb, rfl⟩ | ⟨hao, es, rfl⟩
          · exact absurd h hz
          · cases ha1 with
            | @cons x1 _ _ _ h1 hr1 =>
            cases hr1
            refine iteT' (decide_eq_true rfl) ⟨.ref b, rfl, b, _, 1, x1, rfl, rfl, SqT.of e1, at1 _ _ _, le_line (by simp), fun l nl => ?_⟩
            have w := same_upd (p := l) (o := .lst [x1]) nl
            exact ⟨l, [x1], rfl, upd_same, s1.trans w, .cons (Shw.same h1 w) .nil⟩
          · refine iteF' (decide_eq_false (by decide)) ⟨.ref b, rfl, b, _, 0, .str "all", rfl, rfl, SqT.of e1, at0 _ _, rfl, _, rfl, iteT' (decide_eq_true rfl) ?_⟩
            refine ⟨.ref b, rfl, 2, rfl, ?_⟩
            (first | (show tNoPart _ _ _; unfold tNoPart) | skip)
            refine cut_shw sh1 fun c2 H2 w2 sc2 => ?_
            have sc2 : Shw H2 c2 (.tuple [g, bb]) := sc2
            obtain ⟨bc, cs, rfl, ebc, hbc⟩ := shwT sc2
            refine ⟨bc, cs, rfl, .inr (SqT.of ebc), fun l nl => ?_⟩
            have w := same_upd (p := l) (o := .lst cs) nl
            exact ⟨l, cs, rfl, upd_same, (s1.trans w2).trans w, ShwAll.same hbc w⟩
          · cases ha1 with
            | @cons x1 _ _ _ h1 hr1 =>
            cases hr1
            obtain ⟨bc, cs, rfl, ebc, hbc⟩ := shwT h1
            have n1 : z ≠ "not" ∧ z ≠ "all" := by rcases hao with rfl | rfl <;> exact ⟨by decide, by decide⟩
            refine iteF' (decide_eq_false n1.1) ⟨.ref b, rfl, b, _, 0, .str z, rfl, rfl, SqT.of e1, at0 _ _, rfl, _, rfl, iteF' (by rw [dec_str]; exact decide_eq_false n1.2) ?_⟩
            refine ⟨.ref b, rfl, b, _, 1, .ref bc, rfl, rfl, SqT.of e1, at1 _ _ _, bc, cs, rfl, .inr (SqT.of ebc), fun l nl => ?_⟩
            have w := same_upd (p := l) (o := .lst cs) nl
            refine ⟨l, cs, rfl, upd_same, s1.trans w, ?_⟩
            rw [subs_ao hao]
            exact ShwAll.same hbc w
        · rintro σ' H2 ⟨l, ys, rfl, hl, s2, sy⟩
          generalize hS : subs (.tuple (.str z :: ds)) = S at sc sj sy
          have ly := ShwAll.len sy
          refine ⟨le_line (by simp), fun r nr => ⟨.ref l, rfl, l, rfl, ⟨_, SqL.of (same_upd nr _ _ hl)⟩, fun D nD => ?_⟩⟩
          have w1 := same_upd (p := r) (o := .lst [.int 0]) nr
          refine lc_list (K := K) (a := l) (xs := ys) (fun m H' => Same (upd H2 r (.lst [.int 0])) H' ∧ H' D = some (.lst ((S.take m).map fun d => V.int (cd n d : Nat)))) ⟨same_upd nD, by rw [List.take_zero]; exact upd_same⟩ (fun m H' _ hP => SqL.of (hP.1 _ _ (w1 _ _ hl))) (fun m x H' hm hP => ?_) (fun H3 hP => ?_)
          · obtain ⟨s3, d3⟩ := hP
            obtain ⟨d, hd, sd⟩ := ShwAll.get sy hm
            have hmem := List.mem_of_getElem? hd
            obtain ⟨k', own', hj⟩ := sj d hmem
            refine ⟨rfl, x, rfl, x, d, k', ps, qs, rs, own', rfl, Shw.same sd (w1.trans s3), cqAll_mem sc.1 hmem, hj, fun H4 s4 => ⟨_, s4 _ _ d3, ?_, fun bb o hbo => ?_, ?_⟩⟩
            · rw [List.length_map, List.length_take, sizeLine_eq]
              omega
            · rw [upd_ne (ne_of_none hbo nD)]
              exact s4 _ _ (s3 _ _ hbo)
            · rw [upd_same, List.take_add_one, hd, List.map_append]
              rfl
          · obtain ⟨s3, d3⟩ := hP
            rw [ly, List.take_length] at d3
            have hr2 := s3 _ _ (show (upd H2 r (.lst [.int 0])) r = some (.lst [.int 0]) from upd_same)
            refine ⟨r, D, _, _, rfl, rfl, hr2, d3, le_line (by rw [List.length_map]; simp only [List.length_cons, List.length_nil]; omega), fun r2 nr2 => ?_⟩
            have w4 := same_upd (p := r2) (o := .lst ([V.int 0] ++ S.map fun d => V.int (cd n d : Nat))) nr2
            refine ⟨r2, (0 : Int) :: (S.map (cd n)).map Int.ofNat, rfl, SqL.of ?_, by simp, fun m hm hle => ?_⟩
            · rw [upd_same, List.map_cons, List.map_map, List.map_map]
              rfl
            · have em := mx_is hm hle
              subst em
              refine ⟨1, _, rfl, rfl, ?_⟩
              have zq := q _ (((s2.trans w1).trans s3).trans w4)
              have en : ((cd (n + 1) (.tuple (.str z :: ds)) : Nat) : Int) = 1 + ((mx (S.map (cd n)) : Nat) : Int) := by
                show ((1 + mx ((subs (.tuple (.str z :: ds))).map (cd n)) : Nat) : Int) = _
                rw [hS]
                omega
              rw [en] at zq
              exact zq
end
end K03

set_option autoImplicit false
set_option maxRecDepth 100000
set_option maxHeartbeats 4000000
/-! the names of a claim, by the law -/
namespace K03
open PySem PySem.Spec PyProof.Rows L2 KX
section
variable {ps : List (Str × Str)} {qs rs own : List Str} {ws : List Str}
theorem atoms_subs {n : Nat} {k : Kd} {d : PyData} (h : jf ps qs rs (n + 1) k own d = true) : (∃ z o s t, d = .tuple [.str z, o, .tuple s, .tuple t] ∧ (z = "pos" ∨ z = "val")) ∨ (atoms (n + 1) d = (subs d).flatMap (atoms n) ∧ ∃ z ds, d = .tuple (.str z :: ds) ∧ ¬ (z = "pos" ∨ z = "val")) := by
  rcases jf_cases h with ⟨z', o, s, t, rfl, hz, _⟩ | ⟨d1, rfl, h1⟩ | ⟨o, g, b, rfl, h1, h2⟩ | ⟨z', es, rfl, hz, h1⟩
  · rw [jf_atm hz] at h
    obtain ⟨ss, ts, rfl, rfl⟩ := atm_tup h
    exact .inl ⟨_, _, _, _, rfl, hz⟩
  · refine .inr ⟨?_, _, _, rfl, by decide⟩
    rw [atoms_not, subs_not]
    simp
  · refine .inr ⟨?_, _, _, rfl, by decide⟩
    rw [atoms_all, subs_all]
    simp
  · refine .inr ⟨?_, _, _, rfl, by rcases hz with rfl | rfl <;> decide⟩
    rw [atoms_ao hz, subs_ao hz]
theorem cw_subs {n : Nat} {d : PyData} (h : atoms (n + 1) d = (subs d).flatMap (atoms n)) : cWords ws (n + 1) d = (subs d).flatMap (cWords ws n) := by
  unfold cWords
  rw [h, List.flatMap_assoc, List.flatMap_assoc]
  congr 1
  funext x
  rw [List.flatMap_assoc]
theorem cw_atm {n : Nat} {z : Str} {o : PyData} {s t : List PyData} (h : z = "pos" ∨ z = "val") : cWords ws (n + 1) (.tuple [.str z, o, .tuple s, .tuple t]) = (s ++ t).filter (hasW ws) := by
  unfold cWords
  rw [atoms_atm h, List.filter_append]
  show List.flatMap (wdsOf ws) (List.flatMap tmsOf [PyData.tuple [.str z, o, .tuple s, .tuple t]]) = _
  rw [List.flatMap_singleton]
  show List.flatMap (wdsOf ws) [PyData.tuple s, .tuple t] = _
  rw [List.flatMap_cons, List.flatMap_singleton]
  rfl
theorem cw_len {n : Nat} {k : Kd} {d : PyData} (h : jf ps qs rs n k own d = true) : (cWords ws n d).length ≤ nn d := by
  have a := len_nn (cWords ws n d)
  have b := nn_flat (G := wdsOf ws) (es := (atoms n d).flatMap tmsOf) fun e _ => wds_nn ws e
  have c := nn_flat (G := tmsOf) (es := atoms n d) fun e _ => tms_nn e
  have e := atoms_nn h
  unfold cWords at a ⊢
  omega
theorem nn_take : ∀ (m : Nat) (ds : List PyData), nnAll (ds.take m) ≤ nnAll ds
  | 0, ds => Nat.zero_le _
  | m + 1, [] => Nat.le_refl _
  | m + 1, d :: ds => by
    have := nn_take m ds
    rw [List.take_succ_cons]
    simp only [nnAll]
    omega
end
abbrev sLn : Stmt := topS 67
abbrev nLn : List Str := ["_law_parts_here", "_law_value", "_law_some", "_law_found", "_law_part", "_law_one"]
theorem scLn : FnScope nLn ["_law_parts_here", "_law_value"] (defScope sLn) := ⟨rfl, rfl, rfl, by decide +kernel, rfl, by decide +kernel, by decide +kernel⟩
def spLn (n : Nat) : Sp := fun vs H Q _ => ∃ (l : Addr) (ps : List (Str × Str)) (qs rs : List Str) (v : V) (d : PyData) (k : Kd) (own : List Str), vs = [.ref l, v] ∧ PtAt H l ps qs rs ∧ ps.length ≤ 200 ∧ qs.length ≤ 200 ∧ rs.length ≤ 200 ∧ Shw H v d ∧ cq d = true ∧ nn d ≤ 1000 ∧ jf ps qs rs n k own d = true ∧
  ∀ (L : Addr) (zs : List Str) (H' : Hp), H L = none → Same H H' → cWords (wordsOf ps qs rs) n d = zs.map PyData.str → H' L = some (.lst (zs.map V.str)) → Q (.ref L) H'
section
variable {P : Program} {w : World} {K : PySem.W.Frag} {mg : Str → Option Value} {base : Heap}
theorem ok_ln {f : Addr} {fd : FuncData} (F : Fun K "_law_names" "_law_names" sLn f fd) (hb : Binds K fd ["_law_parts_here", "_law_value"] []) (hm : mg "_law_names" = some (.ref f)) (B : Free mg) (Al : Fnc P w K mg base CX0 2 "_law_all_of" ["_law_parts_here"] spAll) :
    ∀ n, FnOk P w K mg base CX0 (3 + n) f fd ["_law_parts_here", "_law_value"] (spLn n)
  | 0 => by
    refine F.ok (k := 2) scLn (fun vs H Q E h => ?_) (fun cdv A outer s H vs Q E hr h => ?_)
    · obtain ⟨l, ps, qs, rs, v, d, k, own, rfl, _⟩ := h
      rfl
    · obtain ⟨l, ps, qs, rs, v, d, k, own, rfl, _, _, _, _, _, _, _, j, _⟩ := h
      cases j
  | n + 1 => by
    have ih := ok_ln F hb hm B Al n
    have Rc : Fnc P w K mg base CX0 (3 + n) "_law_names" ["_law_parts_here", "_law_value"] (spLn n) := ⟨⟨f, fd, ih, hb, hm, F.kp⟩⟩
    show FnOk P w K mg base CX0 ((3 + n) + 1) f fd _ _
    refine F.ok scLn (fun vs H Q E h => ?_) (fun cdv A outer s H vs Q E hr h => ?_)
    · obtain ⟨l, ps, qs, rs, v, d, k, own, rfl, _⟩ := h
      rfl
    · obtain ⟨l, ps, qs, rs, v, d, k, own, rfl, pt, f1, f2, f3, sh, c, few, j, q⟩ := h
      refine ⟨_, pss_cons (ps_if (pt_cmpR (r := rIn K false) op_in_seq (pe_ix ix_tup (pv 1) pe_int (fun _ _ => rfl)) (pe_tup (pa_cons pe_str (pa_cons pe_str pa_nil))) (by with_unfolding_all rfl))
          (pss_one (ps_ret (pe_lc (own := [("_law_one", 5)]) (g := gName 5) rfl scLn.nd (pi_tup (pe_op op_catA (pe_ix ix_tup (pv 1) pe_int (fun _ _ => rfl)) (pe_ix ix_tup (pv 1) pe_int (fun _ _ => rfl)))) (blkOk_by (N := nLn) (sc := defScope sLn) (by decide +kernel))
            (fun _ _ _ _ _ => pg_name (i := 5) scLn.nd rfl (Or.inl rfl) (Or.inr rfl)) (fun _ _ _ _ _ => pts_one (PW.pt (pw_and (pt_val (pe_callB (id := "isinstance") (r := rIsi K) call_isi (by rfl) B.isinstance (by decide +kernel) (pa_cons (pv 5) (pa_cons (pe_bltn (v := .ty "str") (by rfl) B.str (by decide +kernel) rfl) pa_nil)))) (pw_and1 (pt_cmpR (r := rIn K false) op_in_seq (pv 5) (pe_fnc Al hr (by omega) (by rfl) pass0 (pa_cons (pv 0) pa_nil)) (by with_unfolding_all rfl)))))) (fun _ _ _ _ _ => pv 5)))) pss_nil) <|
        C8.pss_cut (ps_set (i := 2) scLn.nd rfl (.inl rfl) (pe_ifExp (pt_cmpR op_eq (pe_ix ix_tup (pv 1) pe_int (fun _ _ => rfl)) pe_str (nomark _)) (pe_lst (pa_cons (pe_ix ix_tup (pv 1) pe_int (fun _ _ => rfl)) pa_nil))
          (pe_ifExp (pt_cmpR op_eq (pe_ix ix_tup (pv 1) pe_int (fun _ _ => rfl)) pe_str (nomark _)) (pe_callTy call_list_of (by rfl) (Free.list B) (by decide +kernel) (pa_cons (pe_slice sl_tupA (pv 1) (po_some pe_int) po_none) pa_nil)) (pe_callTy call_list_of (by rfl) (Free.list B) (by decide +kernel) (pa_cons (pe_ix ix_tup (pv 1) pe_int (fun _ _ => rfl)) pa_nil))))) <|
        pss_cons (ps_set (i := 3) scLn.nd rfl (.inl rfl) (pe_lst pa_nil)) <|
        pss_cons (ps_for PassesOwn.never rfl (pi_list (pv 2)) (pg_name (i := 4) scLn.nd rfl (Or.inl rfl)) (pss_one (ps_set (i := 3) scLn.nd rfl (.inl rfl) (pe_op op_cat (pv 3) (pe_fnc Rc hr (by omega) (by rfl) pass0 (pa_cons (pv 0) (pa_cons (pv 4) pa_nil))))))) <|
        pss_one (ps_ret (pv 3)), ?_⟩
      have cwl : (cWords (wordsOf ps qs rs) (n + 1) d).length ≤ 1000 := Nat.le_trans (cw_len j) few
      rcases atoms_subs j with ⟨z, o, s, t, rfl, hz⟩ | ⟨has, z, ds, rfl, hz⟩
      · obtain ⟨b, xs, rfl, e, ha⟩ := shwT sh
        have c1 := cq_tup c
        simp only [cqAll, Bool.and_eq_true] at c1
        have lst : s.length ≤ 4 ∧ t.length ≤ 4 := by
          have a := c1.2.2.1
          have b := c1.2.2.2.1
          simp only [cq, Bool.and_eq_true, decide_eq_true_eq] at a b
          exact ⟨a.1, b.1⟩
        cases ha with
        | cons h0 ha1 =>
        cases h0
        cases ha1 with
        | @cons x1 _ _ _ h1 ha2 =>
        cases ha2 with
        | @cons x2 _ _ _ h2 ha3 =>
        cases ha3 with
        | @cons x3 _ _ _ h3 ha4 =>
        cases ha4
        refine ⟨.ref b, rfl, b, _, 0, .str z, rfl, rfl, SqT.of e, at0 _ _, le_line (by simp), fun tp ntp => ⟨tp, _, rfl, .inr (SqT.of upd_same), rfl, rfl, _, rfl, ?_⟩⟩
        have s1 := same_upd (p := tp) (o := .tup [.str "pos", .str "val"]) ntp
        rw [inV_pv, decide_eq_true hz]
        generalize upd H tp (.tup [.str "pos", .str "val"]) = H1 at s1 ⊢
        refine iteT ⟨.ref b, rfl, b, _, 2, x2, rfl, rfl, SqT.of (s1 _ _ e), at2' _ _ _ _, .ref b, rfl, b, _, 3, x3, rfl, rfl, SqT.of (s1 _ _ e), at3' _ _ _ _, ?_⟩
        refine cat_shw (Shw.same h2 s1) (Shw.same h3 s1) (le_line (by omega)) fun r H2 s2 sr => ?_
        obtain ⟨br, rs', rfl, ebr, hbr⟩ := shwT sr
        have lr := ShwAll.len hbr
        rw [List.length_append] at lr
        refine ⟨br, rfl, ⟨_, SqT.of ebr⟩, fun D nD => ?_⟩
        have s12 := s1.trans s2
        refine lc_tupF (K := K) (hasW (wordsOf ps qs rs)) ebr nD (by omega) hbr (fun x d H' QY QN hd sd s3 hy hn => ?_) (fun H3 ys s3 d3 sy => ?_)
        · refine ⟨rfl, x, rfl, x, .ty "str", _, _, isStrP d, rfl, .ty _, shw_ty sd, kit_ty (kit_strP d), isStrP d, rfl, ?_⟩
          cases sd with
          | non => exact iteF (iteF (hn rfl H' (Same.refl _)))
          | bl _ => exact iteF (iteF (hn rfl H' (Same.refl _)))
          | int _ => exact iteF (iteF (hn rfl H' (Same.refl _)))
          | lst _ _ => exact iteF (iteF (hn rfl H' (Same.refl _)))
          | tup _ _ => exact iteF (iteF (hn rfl H' (Same.refl _)))
          | dct _ => exact iteF (iteF (hn rfl H' (Same.refl _)))
          | str y =>
            obtain ⟨v1, v2, v3, hl, y1, y2, y3⟩ := (pt.same s12).same s3
            refine iteT ⟨.str y, rfl, .ref l, rfl, l, v1, v2, v3, ps, qs, rs, rfl, hl, y1, y2, y3, by omega, by omega, by omega, fun L1 H5 w2 e5 => ?_⟩
            refine ⟨L1, _, rfl, .inl (SqL.of e5), rfl, flat_strs _, _, rfl, ?_⟩
            have ei : (if false = true then !inV (.str y) ((wordsOf ps qs rs).map V.str) else inV (.str y) ((wordsOf ps qs rs).map V.str)) = decide (y ∈ wordsOf ps qs rs) := by rw [if_neg Bool.false_ne_true, inV_strs]
            rw [ei]
            cases e6 : decide (y ∈ wordsOf ps qs rs) with
            | true => exact iteT ⟨_, rfl, hy e6 H5 w2⟩
            | false => exact iteF (hn e6 H5 w2)
        · obtain ⟨us, eu, hu⟩ := cw_strs (ws := wordsOf ps qs rs) (n := n + 1) (d := .tuple [.str z, o, .tuple s, .tuple t])
          have eu2 := eu
          rw [cw_atm hz] at eu2
          rw [eu2] at sy
          have ew := strs_of sy
          subst ew
          exact q D us H3 (none_back s12 nD) (s12.trans s3) eu d3
      · obtain ⟨b, xs, rfl, e, ha⟩ := shwT sh
        cases ha with
        | @cons _ xs' _ _ h0 ha' =>
        cases h0
        refine ⟨.ref b, rfl, b, _, 0, .str z, rfl, rfl, SqT.of e, at0 _ _, le_line (by simp), fun t nt => ⟨t, _, rfl, .inr (SqT.of upd_same), rfl, rfl, _, rfl, ?_⟩⟩
        have s1 := same_upd (p := t) (o := .tup [.str "pos", .str "val"]) nt
        rw [inV_pv, decide_eq_false hz]
        generalize upd H t (.tup [.str "pos", .str "val"]) = H1 at s1 ⊢
        have sh1 := Shw.same sh s1
        have e1 := s1 _ _ e
        have ha1 := ShwAll.same ha' s1
        have sc := subs_cq j c
        have sj := subs_jf j
        refine iteF ⟨fun σ' H' => ∃ (m : Addr) (ys : List V), σ' = [some (.ref l), some (.ref b), some (.ref m), none, none, none] ∧ H' m = some (.lst ys) ∧ Same H H' ∧ ShwAll H' ys (subs (.tuple (.str z :: ds))), ?_, ?_⟩
        · refine ⟨.ref b, rfl, b, _, 0, .str z, rfl, rfl, SqT.of e1, at0 _ _, rfl, _, rfl, ?_⟩
          rw [dec_str]
          rcases jf_shape j with h | ⟨rfl, d1, rfl⟩ | ⟨rfl, o, g, bb, rfl⟩ | ⟨hao, es, rfl⟩
          · exact absurd h hz
          · cases ha1 with
            | @cons x1 _ _ _ h1 hr1 =>
            cases hr1
            refine iteT' (decide_eq_true rfl) ⟨.ref b, rfl, b, _, 1, x1, rfl, rfl, SqT.of e1, at1 _ _ _, le_line (by simp), fun m nl => ?_⟩
            have w := same_upd (p := m) (o := .lst [x1]) nl
            exact ⟨m, [x1], rfl, upd_same, s1.trans w, .cons (Shw.same h1 w) .nil⟩
          · refine iteF' (decide_eq_false (by decide)) ⟨.ref b, rfl, b, _, 0, .str "all", rfl, rfl, SqT.of e1, at0 _ _, rfl, _, rfl, iteT' (decide_eq_true rfl) ?_⟩
            refine ⟨.ref b, rfl, 2, rfl, ?_⟩
            (first | (show tNoPart _ _ _; unfold tNoPart) | skip)
            refine cut_shw sh1 fun c2 H2 w2 sc2 => ?_
            have sc2 : Shw H2 c2 (.tuple [g, bb]) := sc2
            obtain ⟨bc, cs, rfl, ebc, hbc⟩ := shwT sc2
            refine ⟨bc, cs, rfl, .inr (SqT.of ebc), fun m nl => ?_⟩
            have w := same_upd (p := m) (o := .lst cs) nl
            exact ⟨m, cs, rfl, upd_same, (s1.trans w2).trans w, ShwAll.same hbc w⟩
          · cases ha1 with
            | @cons x1 _ _ _ h1 hr1 =>
            cases hr1
            obtain ⟨bc, cs, rfl, ebc, hbc⟩ := shwT h1
            have n1 : z ≠ "not" ∧ z ≠ "all" := by rcases hao with rfl | rfl <;> exact ⟨by decide, by decide⟩
            refine iteF' (decide_eq_false n1.1) ⟨.ref b, rfl, b, _, 0, .str z, rfl, rfl, SqT.of e1, at0 _ _, rfl, _, rfl, iteF' (by rw [dec_str]; exact decide_eq_false n1.2) ?_⟩
            refine ⟨.ref b, rfl, b, _, 1, .ref bc, rfl, rfl, SqT.of e1, at1 _ _ _, bc, cs, rfl, .inr (SqT.of ebc), fun m nl => ?_⟩
            have w := same_upd (p := m) (o := .lst cs) nl
            refine ⟨m, cs, rfl, upd_same, s1.trans w, ?_⟩
            rw [subs_ao hao]
            exact ShwAll.same hbc w
        · rintro σ' H2 ⟨m, ys, rfl, hm2, s2, sy⟩
          have ecw := cw_subs (ws := wordsOf ps qs rs) has
          generalize hS : subs (.tuple (.str z :: ds)) = S at sc sj sy ecw
          have ly := ShwAll.len sy
          refine ⟨le_line (by simp), fun F0 nF => ?_⟩
          have w1 := same_upd (p := F0) (o := .lst []) nF
          refine ⟨.ref m, rfl, m, rfl, ⟨_, SqL.of (w1 _ _ hm2)⟩, ?_⟩
          refine for_list (K := K) (a := m) (xs := ys) (fun i σ H' => ∃ (Fd : Addr) (us : List Str) (x : Option V), σ = [some (.ref l), some (.ref b), some (.ref m), some (.ref Fd), x, none] ∧ Same (upd H2 F0 (.lst [])) H' ∧ H Fd = none ∧ H' Fd = some (.lst (us.map V.str)) ∧ (S.take i).flatMap (cWords (wordsOf ps qs rs) n) = us.map PyData.str)
            ⟨F0, [], none, rfl, Same.refl _, none_back s2 nF, upd_same, by rw [List.take_zero]; rfl⟩ (fun i σ H' _ hP => ?_) (fun i x σ H' hx hP => ?_) (fun σ H' hP => ?_)
          · obtain ⟨_, _, _, _, s3, _⟩ := hP
            exact SqL.of (s3 _ _ (w1 _ _ hm2))
          · obtain ⟨Fd, us, x0, rfl, s3, nFd, hF, eu⟩ := hP
            obtain ⟨d, hd, sd⟩ := ShwAll.get sy hx
            have hmem := List.mem_of_getElem? hd
            obtain ⟨k', own', hj⟩ := sj d hmem
            have s23 := s2.trans (w1.trans s3)
            have nd : nn d ≤ 1000 := by have := nn_mem hmem; omega
            refine ⟨.ref Fd, rfl, .ref l, rfl, x, rfl, ?_⟩
            (first | refine (⟨l, ps, qs, rs, x, d, k', own', rfl, pt.same s23, f1, f2, f3, Shw.same sd (w1.trans s3), cqAll_mem sc.1 hmem, nd, hj, fun L zs H4 nL s4 ez hL => ?_⟩) | (show tNil _ _ _; unfold tNil; refine (⟨l, ps, qs, rs, x, d, k', own', rfl, pt.same s23, f1, f2, f3, Shw.same sd (w1.trans s3), cqAll_mem sc.1 hmem, nd, hj, fun L zs H4 nL s4 ez hL => ?_⟩)) | ((try unfold tCons); (try unfold tNil); (try unfold tC); refine (⟨l, ps, qs, rs, x, d, k', own', rfl, pt.same s23, f1, f2, f3, Shw.same sd (w1.trans s3), cqAll_mem sc.1 hmem, nd, hj, fun L zs H4 nL s4 ez hL => ?_⟩)))
            have tot : (us ++ zs).length ≤ 1000 := by
              have a : (us ++ zs).length = ((S.take (i + 1)).flatMap (cWords (wordsOf ps qs rs) n)).length := by
                rw [List.take_add_one, hd, List.flatMap_append, eu]
                show _ = (us.map PyData.str ++ List.flatMap _ [d]).length
                rw [List.flatMap_singleton, ez, ← List.map_append, List.length_map]
              rw [a]
              have b2 := flat_len (G := cWords (wordsOf ps qs rs) n) (es := S.take (i + 1)) fun e he => by
                obtain ⟨k2, o2, h2⟩ := sj e (List.mem_of_mem_take he)
                exact cw_len h2
              have c2 := nn_take (i + 1) S
              omega
            rw [List.length_append] at tot
            refine ⟨Fd, L, _, _, rfl, rfl, s4 _ _ hF, hL, le_line (by rw [List.length_map, List.length_map]; exact tot), fun r nr => ?_⟩
            have w5 := same_upd (p := r) (o := .lst (us.map V.str ++ zs.map V.str)) nr
            refine ⟨r, us ++ zs, _, rfl, s3.trans (s4.trans w5), none_back (s23.trans s4) nr, by rw [upd_same, List.map_append], ?_⟩
            rw [List.take_add_one, hd, List.flatMap_append, eu, List.map_append]
            show _ ++ List.flatMap _ [d] = _
            rw [List.flatMap_singleton, ez]
          · obtain ⟨Fd, us, x0, rfl, s3, nFd, hF, eu⟩ := hP
            rw [ly, List.take_length, ← ecw] at eu
            exact ⟨.ref Fd, rfl, q Fd us H' nFd (s2.trans (w1.trans s3)) eu hF⟩
end
end K03

set_option autoImplicit false
set_option maxRecDepth 100000
set_option maxHeartbeats 4000000
/-! small data of the law, bent or not: what repr and the judges want of it -/
namespace K03
open PySem PySem.Spec PyProof.Rows L2 KX
def LX : List Str := ["K", "ninelette", "*1", ">"]
def LQ2 : List Str := LQ ++ LX
def LI : List Int := [-3, -2, -1, 0, 1, 2, 10 ^ 60, 1 - 10 ^ 60]
mutual
def sq : PyData → Bool
  | .none | .bool _ => true
  | .str z => decide (z ∈ LQ2)
  | .int i => decide (i ∈ LI)
  | .tuple ds => decide (ds.length ≤ 20) && sqAll ds
  | .list ds => decide (ds.length ≤ 20) && (!headInt ds && sqAll ds)
  | .dict kvs => kvs.isEmpty
def sqAll : List PyData → Bool
  | [] => true
  | x :: xs => sq x && sqAll xs
end
theorem LQ2_ok : ∀ z ∈ LQ2, z.length ≤ 9 ∧ (z.cps.toList.all fun c => decide (c < 0x110000)) = true ∧ PyData.strOk z = true ∧ (PyData.str z).shown.length ≤ 13 := by
  have h : (LQ2.all fun z => decide (z.length ≤ 9) && ((z.cps.toList.all fun c => decide (c < 0x110000)) && (PyData.strOk z && decide ((PyData.str z).shown.length ≤ 13)))) = true := by decide +kernel
  intro z hz
  have := List.all_eq_true.mp h z hz
  simp only [Bool.and_eq_true, decide_eq_true_eq] at this
  exact this
theorem LI_ok : ∀ i ∈ LI, (PyData.int i).showable = true ∧ (PyData.int i).shown.length ≤ 62 := by
  have h : (LI.all fun i => (PyData.int i).showable && decide ((PyData.int i).shown.length ≤ 62)) = true := by decide +kernel
  intro i hi
  have := List.all_eq_true.mp h i hi
  simp only [Bool.and_eq_true, decide_eq_true_eq] at this
  exact this
structure SqOk (d : PyData) : Prop where
  g : gd d = true
  off : offD d = true
  show_ : PyData.showable d = true
  len : d.shown.length + 4 ≤ 70 * nn d
structure SqAll (ds : List PyData) : Prop where
  g : gdAll ds = true
  off : offAll ds = true
  show_ : PyData.showableAll ds = true
  len : ((PyData.shownAll ds).map (·.length)).sum + 4 * ds.length ≤ 70 * nnAll ds
theorem shownAll_len (ds : List PyData) : (PyData.shownAll ds).length = ds.length := PyData.shownAll_length ds
mutual
theorem sq_ok : ∀ d : PyData, sq d = true → SqOk d
  | .none, _ => ⟨rfl, rfl, rfl, by decide +kernel⟩
  | .bool b, _ => ⟨rfl, rfl, rfl, by cases b <;> decide +kernel⟩
  | .str z, h => by
    obtain ⟨h1, h2, _, h4⟩ := LQ2_ok z (of_decide_eq_true h)
    refine ⟨?_, rfl, rfl, ?_⟩
    · simp only [gd, h2, Bool.and_true]
      exact decide_eq_true (by omega)
    · have : nn (.str z) = 1 := rfl
      omega
  | .int i, h => by
    obtain ⟨h1, h2⟩ := LI_ok i (of_decide_eq_true h)
    refine ⟨rfl, rfl, h1, ?_⟩
    have : nn (.int i) = 1 := rfl
    omega
  | .tuple ds, h => by
    simp only [sq, Bool.and_eq_true, decide_eq_true_eq] at h
    have a := sq_okAll ds h.2
    refine ⟨?_, ?_, ?_, ?_⟩
    · simp only [gd, a.g, Bool.and_true]
      exact decide_eq_true (by omega)
    · simp only [offD, a.off]
    · simp only [PyData.showable, a.show_]
    · have b := tupleText_len_le (PyData.shownAll ds)
      have c := a.len
      rw [shownAll_len] at b
      simp only [PyData.shown, nn]
      omega
  | .list ds, h => by
    simp only [sq, Bool.and_eq_true, decide_eq_true_eq] at h
    have a := sq_okAll ds h.2.2
    refine ⟨?_, ?_, ?_, ?_⟩
    · simp only [gd, a.g, Bool.and_true]
      exact decide_eq_true (by omega)
    · simp only [offD, a.off, Bool.and_true]
      exact h.2.1
    · simp only [PyData.showable, a.show_]
    · have b := listText_len_le (PyData.shownAll ds)
      have c := a.len
      rw [shownAll_len] at b
      simp only [PyData.shown, nn]
      omega
  | .dict [], _ => ⟨rfl, rfl, rfl, by decide +kernel⟩
  | .dict (_ :: _), h => nomatch h
theorem sq_okAll : ∀ ds : List PyData, sqAll ds = true → SqAll ds
  | [], _ => ⟨rfl, rfl, rfl, by simp [PyData.shownAll]⟩
  | d :: ds, h => by
    simp only [sqAll, Bool.and_eq_true] at h
    have a := sq_ok d h.1
    have b := sq_okAll ds h.2
    refine ⟨?_, ?_, ?_, ?_⟩
    · simp only [gdAll, a.g, b.g, Bool.and_self]
    · simp only [offAll, a.off, b.off, Bool.and_self]
    · simp only [PyData.showableAll, a.show_, b.show_, Bool.and_self]
    · have c := a.len
      have e := b.len
      simp only [PyData.shownAll, List.map_cons, List.sum_cons, List.length_cons, nnAll]
      omega
end
mutual
theorem cq_sq : ∀ d : PyData, cq d = true → sq d = true
  | .str z, h => decide_eq_true (List.mem_append_left _ (of_decide_eq_true h))
  | .int i, h => by
    simp only [cq, Bool.and_eq_true, decide_eq_true_eq] at h
    refine decide_eq_true ?_
    have : i = -3 ∨ i = -2 ∨ i = -1 ∨ i = 0 ∨ i = 1 ∨ i = 2 := by omega
    unfold LI
    rcases this with rfl | rfl | rfl | rfl | rfl | rfl <;> simp
  | .tuple ds, h => by
    simp only [cq, Bool.and_eq_true, decide_eq_true_eq] at h
    simp only [sq, cq_sqAll ds h.2.2, Bool.and_true]
    exact decide_eq_true (by omega)
  | .none, h => nomatch h
  | .bool _, h => nomatch h
  | .list _, h => nomatch h
  | .dict _, h => nomatch h
theorem cq_sqAll : ∀ ds : List PyData, cqAll ds = true → sqAll ds = true
  | [], _ => rfl
  | d :: ds, h => by
    simp only [cqAll, Bool.and_eq_true] at h
    simp only [sqAll, cq_sq d h.1, cq_sqAll ds h.2, Bool.and_self]
end
theorem sqAll_app {a b : List PyData} (h1 : sqAll a = true) (h2 : sqAll b = true) : sqAll (a ++ b) = true := by
  induction a with
  | nil => exact h2
  | cons x a ih =>
    simp only [List.cons_append, sqAll, Bool.and_eq_true] at h1 ⊢
    exact ⟨h1.1, ih h1.2⟩
theorem sqAll_mem : ∀ {ds : List PyData} {d : PyData}, sqAll ds = true → d ∈ ds → sq d = true
  | y :: ys, d, h, m => by
    simp only [sqAll, Bool.and_eq_true] at h
    rcases List.mem_cons.mp m with rfl | m
    · exact h.1
    · exact sqAll_mem h.2 m
theorem sqAll_of : ∀ {ds : List PyData}, (∀ d ∈ ds, sq d = true) → sqAll ds = true
  | [], _ => rfl
  | d :: ds, h => by simp only [sqAll, h d List.mem_cons_self, sqAll_of fun y hy => h y (List.mem_cons_of_mem _ hy), Bool.and_self]
end K03

set_option autoImplicit false
set_option maxRecDepth 100000
set_option maxHeartbeats 4000000
/-! data written out in the law, and odd values -/
namespace K03
open PySem PySem.Spec PyProof.Rows L2 KX
def tDat (D : Str → PyData) : TE := fun σ H Q => ∃ z, σ[2]? = some (some (.str z)) ∧ ∀ v H', Same H H' → Shw H' v (D z) → Q v H'
def tDats (Ds : Str → List PyData) : TA := fun σ H Q => ∃ z, σ[2]? = some (some (.str z)) ∧ ∀ vs H', Same H H' → ShwAll H' vs (Ds z) → Q vs H'
theorem pa_imp {X : Cx} {es : List Expr} {t u : TA} (h : PA X es t) (i : ∀ σ H k, u σ H k → t σ H k) : PA X es u := ⟨fun pos pins s σ H Q I q => h.run pos pins s σ H Q I (i _ _ _ q)⟩
section
variable {X : Cx} {e : Expr} {es : List Expr} {D : Str → PyData} {Ds : Str → List PyData}
theorem d_str {x : Str} {k : Nat} {pos : Pos} : PE X (.Constant (.str x) k pos) (tDat fun _ => .str x) := pe_imp pe_str fun σ H Q ⟨z, _, q⟩ => q _ H (Same.refl H) (.str x)
theorem d_int {i : Int} {k : Nat} {pos : Pos} : PE X (.Constant (.int i) k pos) (tDat fun _ => .int i) := pe_imp pe_int fun σ H Q ⟨z, _, q⟩ => q _ H (Same.refl H) (.int i)
theorem d_neg {i : Int} {k : Nat} {p1 pos : Pos} : PE X (.UnaryOp .USub (.Constant (.int i) k p1) pos) (tDat fun _ => .int (-i)) := pe_imp (pe_un un_neg pe_int) fun σ H Q ⟨z, _, q⟩ => ⟨i, rfl, q _ H (Same.refl H) (.int (-i))⟩
theorem d_bool {b : Bool} {k : Nat} {pos : Pos} : PE X (.Constant (.bool b) k pos) (tDat fun _ => .bool b) := pe_imp pe_bl fun σ H Q ⟨z, _, q⟩ => q _ H (Same.refl H) (.bl b)
theorem d_none {k : Nat} {pos : Pos} : PE X (.Constant .none k pos) (tDat fun _ => .none) := pe_imp pe_non fun σ H Q ⟨z, _, q⟩ => q _ H (Same.refl H) .non
theorem d_of {te : TE} (h : PE X e te) (i : ∀ σ H Q, tDat D σ H Q → te σ H Q) : PE X e (tDat D) := pe_imp h i
theorem d_nil : PA X [] (tDats fun _ => []) := pa_imp pa_nil fun σ H Q ⟨z, _, q⟩ => q _ H (Same.refl H) .nil
theorem d_tup {x1 : _} {pos : Pos} (h : PA X es (tDats Ds)) (few : ∀ z, (Ds z).length ≤ 1000) : PE X (.Tuple es x1 pos) (tDat fun z => .tuple (Ds z)) := pe_imp (pe_tup h) fun σ H Q ⟨z, hz, q⟩ => ⟨z, hz, fun vs H1 s1 sh => ⟨le_line (by rw [ShwAll.len sh]; exact few z), fun p np => q _ _ (s1.trans (same_upd np)) (.tup upd_same (ShwAll.same sh (same_upd np)))⟩⟩
theorem d_lst {pos : Pos} (h : PA X es (tDats Ds)) (few : ∀ z, (Ds z).length ≤ 1000) : PE X (.List es pos) (tDat fun z => .list (Ds z)) := pe_imp (pe_lst h) fun σ H Q ⟨z, hz, q⟩ => ⟨z, hz, fun vs H1 s1 sh => ⟨le_line (by rw [ShwAll.len sh]; exact few z), fun p np => q _ _ (s1.trans (same_upd np)) (.lst upd_same (ShwAll.same sh (same_upd np)))⟩⟩
theorem d_dict {pos : Pos} : PE X (.Dict [] [] pos) (tDat fun _ => .dict []) := pe_imp pe_dnewK fun σ H Q ⟨z, _, q⟩ p np => q _ _ (same_upd np) (.dct upd_same)
theorem d_cons (h : PE X e (tDat D)) (h2 : PA X es (tDats Ds)) (hs : starEach (e :: es) X.env = (false, eval e X.env) :: starEach es X.env := by rfl) : PA X (e :: es) (tDats fun z => D z :: Ds z) := pa_imp (pa_cons h h2 hs) fun σ H Q ⟨z, hz, q⟩ => ⟨z, hz, fun v H1 s1 sh => ⟨z, hz, fun vs H2 s2 sh2 => q _ _ (s1.trans s2) (.cons (Shw.same sh s2) sh2)⟩⟩
end
abbrev sOd : Stmt := topS 68
abbrev nOd : List Str := ["_law_creel_here", "_law_parts_here", "_law_name", "_law_some"]
theorem scOd : FnScope nOd ["_law_creel_here", "_law_parts_here"] (defScope sOd) := ⟨rfl, rfl, rfl, by decide +kernel, rfl, by decide +kernel, by decide +kernel⟩
def tp (ds : List PyData) : PyData := .tuple ds
def od1 (z : Str) : List PyData := [.str z, tp [.str z, .int 0], tp [.str z, .int 1], tp [.str "", .int (10 ^ 60)], tp [.str "", .int (1 - 10 ^ 60)], tp [.str z, .bool true], tp [.str z], .none, .int 0, .bool true, .int 1, .int (-1)]
def od2 (z : Str) : List PyData := [tp [.str z, .str "", .int 0, .int 0], tp [.str z, .str z, .int 0, .int 0], tp [.str z, .str "k", .int 0, .int 0], tp [.str z, .str "k", .int 1, .int 0], .list [], .dict [], tp [], .str "<=", .str ">"]
def od3 (z : Str) : List PyData := [tp [.str "and", tp []], tp [.str "or", .list []], tp [.str "not", tp []], tp [.str "or", tp [.none]], tp [.str "pos", .str "<=", tp [.str "k", .int 0], tp [.str z, .int 0]], .str "not"]
def od4 (z : Str) : List PyData := [tp [.str "val", .str "<", tp [.str z, .int 0], tp [.str "", .int 0]], tp [.str "all", tp [.str "k"], tp [.str "and", tp []], tp [.str "or", tp []]], tp [.str "k"], .str "<", .str "all"]
def od5 (z : Str) : List PyData := [tp [.str "k", .str z], .str "pos", .str "val", .str "and", .str "or", tp [.str "pos", .str "<", tp [.str "k", .int 0], tp [.str "", .int 0]]]
def odAll (z : Str) : List PyData := (((od1 z ++ od2 z) ++ od3 z) ++ od4 z) ++ [tp [.str "k", .str "k"]] ++ od5 z
/-- odd data, as the judges and repr want it -/
structure OdW (d : PyData) : Prop where
  s : sq d = true
  p : PyData.depth d ≤ 3
  w : nn d ≤ 20
theorem od_ok (z : Str) (hz : z ∈ LQ2) : ∀ d ∈ odAll z, OdW d := by
  have e : sq (.str z) = true := decide_eq_true hz
  have c : ∀ w : Str, w ∈ LC → sq (.str w) = true := fun w h => decide_eq_true (List.mem_append_left _ (LQ_c h))
  have k : sq (.str "k") = true := decide_eq_true (show ("k" : Str) ∈ LQ2 from List.mem_append_left _ (LQ_o (by decide)))
  have g : sq (.str ">") = true := by decide +kernel
  have c1 := c "" (by decide)
  have c2 := c "pos" (by decide)
  have c3 := c "val" (by decide)
  have c4 := c "and" (by decide)
  have c5 := c "or" (by decide)
  have c6 := c "not" (by decide)
  have c7 := c "all" (by decide)
  have c8 := c "<=" (by decide)
  have c9 := c "<" (by decide)
  have i1 : sq (.int 0) = true := by decide +kernel
  have i2 : sq (.int 1) = true := by decide +kernel
  have i3 : sq (.int (-1)) = true := by decide +kernel
  have i4 : sq (.int (10 ^ 60)) = true := by decide +kernel
  have i5 : sq (.int (1 - 10 ^ 60)) = true := by decide +kernel
  intro d hd
  unfold odAll od1 od2 od3 od4 od5 at hd
  simp only [List.cons_append, List.nil_append, List.mem_cons, List.not_mem_nil, or_false] at hd
  rcases hd with rfl | rfl | rfl | rfl | rfl | rfl | rfl | rfl | rfl | rfl | rfl | rfl | rfl | rfl | rfl | rfl | rfl | rfl | rfl | rfl | rfl | rfl | rfl | rfl | rfl | rfl | rfl | rfl | rfl | rfl | rfl | rfl | rfl | rfl | rfl | rfl | rfl | rfl | rfl <;>
    exact ⟨by first | assumption | rfl | (simp only [tp, sq, sqAll, headInt, List.isEmpty, List.length_cons, List.length_nil] at *; simp [*]), by simp [tp, PyData.depth, PyData.depthAll, PyData.depthKv], by simp [tp, nn, nnAll]⟩
end K03

set_option autoImplicit false
set_option maxRecDepth 100000
set_option maxHeartbeats 4000000
/-! odd values drawn -/
namespace K03
open PySem PySem.Spec PyProof.Rows L2 KX
def O7 : List Str := ["", "k", "kk", "own", "K", "ninelette", "*1"]
theorem O7_q : ∀ z ∈ O7, z ∈ LQ2 := by
  have h : (O7.all fun z => decide (z ∈ LQ2)) = true := by decide +kernel
  intro z hz
  exact of_decide_eq_true (List.all_eq_true.mp h z hz)
theorem d_pow {X : Cx} {k1 k2 : Nat} {p1 p2 pos : Pos} : PE X (.BinOp (.Constant (.int 10) k1 p1) .Pow (.Constant (.int 60) k2 p2) pos) (tDat fun _ => .int (10 ^ 60)) :=
  pe_imp (pe_op op_pow pe_int pe_int) fun σ H Q ⟨z, _, q⟩ => ⟨10, 60, rfl, rfl, ⟨by decide, by decide +kernel⟩, q _ H (Same.refl H) (.int (10 ^ 60))⟩
theorem d_sub {X : Cx} {k0 k1 k2 : Nat} {p0 p1 p2 p3 pos : Pos} : PE X (.BinOp (.Constant (.int 1) k0 p0) .Sub (.BinOp (.Constant (.int 10) k1 p1) .Pow (.Constant (.int 60) k2 p2) p3) pos) (tDat fun _ => .int (1 - 10 ^ 60)) :=
  pe_imp (pe_op op_sub pe_int (pe_op op_pow pe_int pe_int)) fun σ H Q ⟨z, _, q⟩ => ⟨10, 60, rfl, rfl, ⟨by decide, by decide +kernel⟩, 1, 10 ^ 60, rfl, rfl, q _ H (Same.refl H) (.int (1 - 10 ^ 60))⟩
def spOd : Sp := fun vs H Q _ => ∃ (a l : Addr) (y c : Int) (ps : List (Str × Str)) (qs rs : List Str), vs = [.ref a, .ref l] ∧ Dw H a l y c ps qs rs ∧ c ≤ 950000 ∧ Drw a y c 2 OdW H Q
section
variable {P : Program} {w : World} {K : PySem.W.Frag} {mg : Str → Option Value} {base : Heap}
theorem ok_od {f : Addr} {fd : FuncData} (F : Fun K "_law_odd" "_law_odd" sOd f fd) (B : Free mg) (On : Fnc P w K mg base CX0 2 "_law_one_of" ["_law_creel_here", "_law_items"] spOne) (Al : Fnc P w K mg base CX0 2 "_law_all_of" ["_law_parts_here"] spAll) :
    FnOk P w K mg base CX0 3 f fd ["_law_creel_here", "_law_parts_here"] spOd := by
  refine F.ok scOd (fun vs H Q E h => ?_) (fun cdv A outer s H vs Q E hr h => ?_)
  · obtain ⟨a, l, y, c, ps, qs, rs, rfl, _⟩ := h
    rfl
  · obtain ⟨a, l, y, c, ps, qs, rs, rfl, D, hc, q⟩ := h
    have nm : ∀ pos, PE (cxOf CX0 P w K mg base nOd "_law_odd" (defScope sOd) f cdv A outer s H E).nox (.Name "_law_name" pos) (tDat fun z => .str z) := fun pos => pe_imp (pv 2) fun σ H Q ⟨z, hz, q⟩ => ⟨.str z, hz, q _ H (Same.refl H) (.str z)⟩
    refine ⟨_, pss_cons (ps_set (i := 2) scOd.nd rfl (.inl rfl) (pe_fnc On hr (by omega) (by rfl) pass0 (pa_cons (pv 0) (pa_cons (pe_op op_cat (pe_fnc Al hr (by omega) (by rfl) pass0 (pa_cons (pv 1) pa_nil)) (pe_lst (pa_cons pe_str (pa_cons pe_str (pa_cons pe_str (pa_cons pe_str (pa_cons pe_str (pa_cons pe_str (pa_cons pe_str pa_nil))))))))) pa_nil)))) <|
      pss_cons (ps_set (i := 3) scOd.nd rfl (.inl rfl) (pe_lst (d_cons (nm _) (d_cons (d_tup (d_cons (nm _) (d_cons d_int d_nil)) (fun _ => by simp)) (d_cons (d_tup (d_cons (nm _) (d_cons d_int d_nil)) (fun _ => by simp)) (d_cons (d_tup (d_cons d_str (d_cons d_pow d_nil)) (fun _ => by simp)) (d_cons (d_tup (d_cons d_str (d_cons d_sub d_nil)) (fun _ => by simp)) (d_cons (d_tup (d_cons (nm _) (d_cons d_bool d_nil)) (fun _ => by simp)) (d_cons (d_tup (d_cons (nm _) d_nil) (fun _ => by simp)) (d_cons d_none (d_cons d_int (d_cons d_bool (d_cons d_int (d_cons d_neg d_nil)))))))))))))) <|
      pss_cons (ps_set (i := 3) scOd.nd rfl (.inl rfl) (pe_op op_cat (pv 3) (pe_lst (d_cons (d_tup (d_cons (nm _) (d_cons d_str (d_cons d_int (d_cons d_int d_nil)))) (fun _ => by simp)) (d_cons (d_tup (d_cons (nm _) (d_cons (nm _) (d_cons d_int (d_cons d_int d_nil)))) (fun _ => by simp)) (d_cons (d_tup (d_cons (nm _) (d_cons d_str (d_cons d_int (d_cons d_int d_nil)))) (fun _ => by simp)) (d_cons (d_tup (d_cons (nm _) (d_cons d_str (d_cons d_int (d_cons d_int d_nil)))) (fun _ => by simp)) (d_cons (d_lst d_nil (fun _ => by simp)) (d_cons d_dict (d_cons (d_tup d_nil (fun _ => by simp)) (d_cons d_str (d_cons d_str d_nil)))))))))))) <|
      pss_cons (ps_set (i := 3) scOd.nd rfl (.inl rfl) (pe_op op_cat (pv 3) (pe_lst (d_cons (d_tup (d_cons d_str (d_cons (d_tup d_nil (fun _ => by simp)) d_nil)) (fun _ => by simp)) (d_cons (d_tup (d_cons d_str (d_cons (d_lst d_nil (fun _ => by simp)) d_nil)) (fun _ => by simp)) (d_cons (d_tup (d_cons d_str (d_cons (d_tup d_nil (fun _ => by simp)) d_nil)) (fun _ => by simp)) (d_cons (d_tup (d_cons d_str (d_cons (d_tup (d_cons d_none d_nil) (fun _ => by simp)) d_nil)) (fun _ => by simp)) (d_cons (d_tup (d_cons d_str (d_cons d_str (d_cons (d_tup (d_cons d_str (d_cons d_int d_nil)) (fun _ => by simp)) (d_cons (d_tup (d_cons (nm _) (d_cons d_int d_nil)) (fun _ => by simp)) d_nil)))) (fun _ => by simp)) (d_cons d_str d_nil))))))))) <|
      pss_cons (ps_set (i := 3) scOd.nd rfl (.inl rfl) (pe_op op_cat (pv 3) (pe_lst (d_cons (d_tup (d_cons d_str (d_cons d_str (d_cons (d_tup (d_cons (nm _) (d_cons d_int d_nil)) (fun _ => by simp)) (d_cons (d_tup (d_cons d_str (d_cons d_int d_nil)) (fun _ => by simp)) d_nil)))) (fun _ => by simp)) (d_cons (d_tup (d_cons d_str (d_cons (d_tup (d_cons d_str d_nil) (fun _ => by simp)) (d_cons (d_tup (d_cons d_str (d_cons (d_tup d_nil (fun _ => by simp)) d_nil)) (fun _ => by simp)) (d_cons (d_tup (d_cons d_str (d_cons (d_tup d_nil (fun _ => by simp)) d_nil)) (fun _ => by simp)) d_nil)))) (fun _ => by simp)) (d_cons (d_tup (d_cons d_str d_nil) (fun _ => by simp)) (d_cons d_str (d_cons d_str d_nil)))))))) <|
      pss_cons (ps_expr (pe_bm PySem.F.plainAttrs_list PySem.F.slot_list_append PySem.F.type_list_append mt_append (pv 3) (d_cons (d_tup (d_cons d_str (d_cons d_str d_nil)) (fun _ => by simp)) d_nil))) <|
      pss_one (ps_ret (pe_fnc On hr (by omega) (by rfl) pass0 (pa_cons (pv 0) (pa_cons (pe_op op_cat (pv 3) (pe_lst (d_cons (d_tup (d_cons d_str (d_cons (nm _) d_nil)) (fun _ => by simp)) (d_cons d_str (d_cons d_str (d_cons d_str (d_cons d_str (d_cons (d_tup (d_cons d_str (d_cons d_str (d_cons (d_tup (d_cons d_str (d_cons d_int d_nil)) (fun _ => by simp)) (d_cons (d_tup (d_cons d_str (d_cons d_int d_nil)) (fun _ => by simp)) d_nil)))) (fun _ => by simp)) d_nil)))))))) pa_nil)))), ?_⟩
    obtain ⟨v1, v2, v3, hl, y1, y2, y3⟩ := id D.pt
    have g1 := D.gp.l1
    have g2 := D.gp.l2
    have g3 := D.gp.l3
    have lw : (wordsOf ps qs rs).length ≤ 12 := by
      have := lensOf_le ps
      unfold wordsOf
      simp only [List.length_append, List.length_map]
      omega
    refine ⟨.ref a, rfl, .ref l, rfl, ?_⟩
    (first | refine (⟨l, v1, v2, v3, ps, qs, rs, rfl, hl, y1, y2, y3, by omega, by omega, by omega, fun L1 H1 w1 e1 => ?_⟩) | (show tNil _ _ _; unfold tNil; refine (⟨l, v1, v2, v3, ps, qs, rs, rfl, hl, y1, y2, y3, by omega, by omega, by omega, fun L1 H1 w1 e1 => ?_⟩)) | ((try unfold tCons); (try unfold tNil); (try unfold tC); refine (⟨l, v1, v2, v3, ps, qs, rs, rfl, hl, y1, y2, y3, by omega, by omega, by omega, fun L1 H1 w1 e1 => ?_⟩)))
    refine ⟨le_line (by simp), fun p0 n0 => ⟨L1, p0, _, _, rfl, rfl, same_upd n0 _ _ e1, upd_same, le_line (by rw [List.length_map]; simp only [List.length_cons, List.length_nil]; omega), fun r1 n1 => ?_⟩⟩
    have w2 := w1.trans ((same_upd (p := p0) (o := .lst (O7.map V.str)) n0).trans (same_upd (p := r1) (o := .lst ((wordsOf ps qs rs).map V.str ++ O7.map V.str)) n1))
    have e2 : (upd (upd H1 p0 (.lst (O7.map V.str))) r1 (.lst ((wordsOf ps qs rs).map V.str ++ O7.map V.str))) r1 = some (.lst ((wordsOf ps qs rs ++ O7).map V.str)) := by rw [upd_same, List.map_append]
    have m2 : r1 ≠ a := (D.cr.same (w1.trans (same_upd (p := p0) (o := .lst (O7.map V.str)) n0))).ne n1
    have el : (O7.length : Nat) = 7 := rfl
    (first | refine (use_oneS (zs := wordsOf ps qs rs ++ O7) (D.cr.same w2) (by omega) e2 m2 (by rw [List.length_append]; omega) (by rw [List.length_append]; omega) fun z c2 H2 hz C2 l2 G2 => ?_) | (show tNil _ _ _; unfold tNil; refine (use_oneS (zs := wordsOf ps qs rs ++ O7) (D.cr.same w2) (by omega) e2 m2 (by rw [List.length_append]; omega) (by rw [List.length_append]; omega) fun z c2 H2 hz C2 l2 G2 => ?_)) | ((try unfold tCons); (try unfold tNil); (try unfold tC); refine (use_oneS (zs := wordsOf ps qs rs ++ O7) (D.cr.same w2) (by omega) e2 m2 (by rw [List.length_append]; omega) (by rw [List.length_append]; omega) fun z c2 H2 hz C2 l2 G2 => ?_)))
    have hz2 : z ∈ LQ2 := by
      rcases List.mem_append.mp hz with h | h
      · exact List.mem_append_left _ (LQ_w (words_W16 D.gp z h))
      · exact O7_q z h
    have G02 := (Grw.of w2).trans G2
    have ok := od_ok z hz2
    have g0 : ∀ {Hx Hy : Hp}, Same Hx Hy → ∀ {b : Addr} {o : HO}, Hx b = some o → Hy b = some o := fun s _ _ e => s _ _ e
    refine ⟨z, rfl, fun xs1 H3 s3 sx1 => ⟨le_line (by rw [ShwAll.len sx1]; show 12 ≤ 1000; decide), fun L nL => ?_⟩⟩
    have sx1 : ShwAll H3 xs1 (od1 z) := sx1
    have l1 : xs1.length = 12 := ShwAll.len sx1
    have w3 := same_upd (p := L) (o := .lst xs1) nL
    refine ⟨.ref L, rfl, z, rfl, fun xs2 H4 s4 sx2 => ⟨le_line (by rw [ShwAll.len sx2]; show 9 ≤ 1000; decide), fun p4 n4 => ?_⟩⟩
    have sx2 : ShwAll H4 xs2 (od2 z) := sx2
    have l2' : xs2.length = 9 := ShwAll.len sx2
    have w4 := same_upd (p := p4) (o := .lst xs2) n4
    refine ⟨L, p4, xs1, xs2, rfl, rfl, w4 _ _ (s4 _ _ upd_same), upd_same, le_line (by omega), fun L2 nL2 => ?_⟩
    have w5 := same_upd (p := L2) (o := .lst (xs1 ++ xs2)) nL2
    have e5 : (upd (upd H4 p4 (.lst xs2)) L2 (.lst (xs1 ++ xs2))) L2 = some (.lst (xs1 ++ xs2)) := upd_same
    have sx12 : ShwAll (upd (upd H4 p4 (.lst xs2)) L2 (.lst (xs1 ++ xs2))) (xs1 ++ xs2) (od1 z ++ od2 z) := ShwAll.append (ShwAll.same sx1 (((w3.trans s4).trans w4).trans w5)) (ShwAll.same sx2 (w4.trans w5))
    have t5 := ((s3.trans w3).trans s4).trans (w4.trans w5)
    generalize upd (upd H4 p4 (.lst xs2)) L2 (.lst (xs1 ++ xs2)) = H5 at e5 sx12 t5 ⊢
    refine ⟨.ref L2, rfl, z, rfl, fun xs3 H6 s6 sx3 => ⟨le_line (by rw [ShwAll.len sx3]; show 6 ≤ 1000; decide), fun p6 n6 => ?_⟩⟩
    have sx3 : ShwAll H6 xs3 (od3 z) := sx3
    have l3' : xs3.length = 6 := ShwAll.len sx3
    have w6 := same_upd (p := p6) (o := .lst xs3) n6
    refine ⟨L2, p6, xs1 ++ xs2, xs3, rfl, rfl, w6 _ _ (s6 _ _ e5), upd_same, le_line (by rw [List.length_append]; omega), fun L3 nL3 => ?_⟩
    have w7 := same_upd (p := L3) (o := .lst ((xs1 ++ xs2) ++ xs3)) nL3
    have e7 : (upd (upd H6 p6 (.lst xs3)) L3 (.lst ((xs1 ++ xs2) ++ xs3))) L3 = some (.lst ((xs1 ++ xs2) ++ xs3)) := upd_same
    have sx13 : ShwAll (upd (upd H6 p6 (.lst xs3)) L3 (.lst ((xs1 ++ xs2) ++ xs3))) ((xs1 ++ xs2) ++ xs3) ((od1 z ++ od2 z) ++ od3 z) := ShwAll.append (ShwAll.same sx12 ((s6.trans w6).trans w7)) (ShwAll.same sx3 (w6.trans w7))
    have t7 := (t5.trans s6).trans (w6.trans w7)
    generalize upd (upd H6 p6 (.lst xs3)) L3 (.lst ((xs1 ++ xs2) ++ xs3)) = H7 at e7 sx13 t7 ⊢
    refine ⟨.ref L3, rfl, z, rfl, fun xs4 H8 s8 sx4 => ⟨le_line (by rw [ShwAll.len sx4]; show 5 ≤ 1000; decide), fun p8 n8 => ?_⟩⟩
    have sx4 : ShwAll H8 xs4 (od4 z) := sx4
    have l4' : xs4.length = 5 := ShwAll.len sx4
    have w8 := same_upd (p := p8) (o := .lst xs4) n8
    refine ⟨L3, p8, (xs1 ++ xs2) ++ xs3, xs4, rfl, rfl, w8 _ _ (s8 _ _ e7), upd_same, le_line (by rw [List.length_append, List.length_append]; omega), fun L4 nL4 => ?_⟩
    have lx : (((xs1 ++ xs2) ++ xs3) ++ xs4).length = 32 := by
      simp only [List.length_append]
      omega
    have sx14 : ShwAll (upd H8 p8 (.lst xs4)) (((xs1 ++ xs2) ++ xs3) ++ xs4) (((od1 z ++ od2 z) ++ od3 z) ++ od4 z) := ShwAll.append (ShwAll.same sx13 (s8.trans w8)) (ShwAll.same sx4 w8)
    have t8 := (t7.trans s8).trans w8
    generalize ((xs1 ++ xs2) ++ xs3) ++ xs4 = xs at lx sx14 ⊢
    generalize upd H8 p8 (.lst xs4) = H9 at nL4 sx14 t8 ⊢
    have w9 := same_upd (p := L4) (o := .lst xs) nL4
    have C9 := (C2.same t8).same w9
    have La := (C2.same t8).ne nL4
    refine ⟨.ref L4, rfl, .inl ⟨rfl, _, SqL.of upd_same⟩, z, rfl, fun vs H10 s10 sv => ?_⟩
    have sv : ShwAll H10 vs [tp [.str "k", .str "k"]] := sv
    cases sv with
    | @cons v0 _ _ _ sv0 sv1 =>
    cases sv1
    have e10 := s10 _ _ (upd_same (H := H9) (a := L4) (o := .lst xs))
    refine ⟨L4, xs, v0, rfl, rfl, e10, by rw [sizeLine_eq]; omega, ?_⟩
    have b11 : Same H9 (upd H10 L4 (.lst (xs ++ [v0]))) := fun b o e => by
      rw [upd_ne (ne_of_none e nL4)]
      exact s10 _ _ (w9 _ _ e)
    have tp10 : Tup H10 (upd H10 L4 (.lst (xs ++ [v0]))) := fun b ys e => by
      rw [upd_ne (fun h => by rw [h, e10] at e; cases e)]
      exact e
    have sx15 : ShwAll (upd H10 L4 (.lst (xs ++ [v0]))) (xs ++ [v0]) ((((od1 z ++ od2 z) ++ od3 z) ++ od4 z) ++ [tp [.str "k", .str "k"]]) := ShwAll.append (ShwAll.same sx14 b11) (.cons (Shw.tupd tp10 (by decide +kernel) sv0) .nil)
    have C11 : CrAt (upd H10 L4 (.lst (xs ++ [v0]))) a y c2 := by
      obtain ⟨x, e, cc⟩ := C9.same s10
      exact ⟨x, by rw [upd_ne La.symm]; exact e, cc⟩
    have e11 : (upd H10 L4 (.lst (xs ++ [v0]))) L4 = some (.lst (xs ++ [v0])) := upd_same
    have t11 : Same H2 (upd H10 L4 (.lst (xs ++ [v0]))) := t8.trans b11
    generalize upd H10 L4 (.lst (xs ++ [v0])) = H11 at e11 sx15 C11 t11 ⊢
    refine ⟨.ref a, rfl, .ref L4, rfl, z, rfl, fun xs5 H12 s12 sx5 => ⟨le_line (by rw [ShwAll.len sx5]; show 6 ≤ 1000; decide), fun p12 n12 => ?_⟩⟩
    have sx5 : ShwAll H12 xs5 (od5 z) := sx5
    have l5' : xs5.length = 6 := ShwAll.len sx5
    have w12 := same_upd (p := p12) (o := .lst xs5) n12
    refine ⟨L4, p12, xs ++ [v0], xs5, rfl, rfl, w12 _ _ (s12 _ _ e11), upd_same, le_line (by rw [List.length_append, List.length_singleton]; omega), fun R nR => ?_⟩
    have w13 := same_upd (p := R) (o := .lst ((xs ++ [v0]) ++ xs5)) nR
    have t13 := s12.trans (w12.trans w13)
    have sx16 : ShwAll (upd (upd H12 p12 (.lst xs5)) R (.lst ((xs ++ [v0]) ++ xs5))) ((xs ++ [v0]) ++ xs5) (odAll z) := ShwAll.append (ShwAll.same sx15 t13) (ShwAll.same sx5 (w12.trans w13))
    have lo := ShwAll.len sx16
    have lo2 : ((xs ++ [v0]) ++ xs5).length = 39 := by
      simp only [List.length_append, List.length_cons, List.length_nil]
      omega
    (first | refine (use_one (C11.same t13) (by omega) upd_same ((C11.same (s12.trans w12)).ne nR) sx16 (by omega) (by omega) (offAll_mem fun d hd => (sq_ok d (ok d hd).s).off) fun r d c3 H14 hd sr C14 l14 G14 => ?_) | (show tNil _ _ _; unfold tNil; refine (use_one (C11.same t13) (by omega) upd_same ((C11.same (s12.trans w12)).ne nR) sx16 (by omega) (by omega) (offAll_mem fun d hd => (sq_ok d (ok d hd).s).off) fun r d c3 H14 hd sr C14 l14 G14 => ?_)) | ((try unfold tCons); (try unfold tNil); (try unfold tC); refine (use_one (C11.same t13) (by omega) upd_same ((C11.same (s12.trans w12)).ne nR) sx16 (by omega) (by omega) (offAll_mem fun d hd => (sq_ok d (ok d hd).s).off) fun r d c3 H14 hd sr C14 l14 G14 => ?_)))
    exact q r d c3 H14 (ok d hd) sr C14 (by omega) ((G02.trans (Grw.of (t11.trans t13))).trans G14)
end
end K03

set_option autoImplicit false
set_option maxRecDepth 100000
set_option maxHeartbeats 4000000
/-! claims bent -/
namespace K03
open PySem PySem.Spec PyProof.Rows L2 KX
abbrev sBe : Stmt := topS 69
abbrev nBe : List Str := ["_law_creel_here", "_law_parts_here", "_law_value", "_law_some", "_law_spot"]
theorem scBe : FnScope nBe ["_law_creel_here", "_law_parts_here", "_law_value"] (defScope sBe) := ⟨rfl, rfl, rfl, by decide +kernel, rfl, by decide +kernel, by decide +kernel⟩
structure BeW (d r : PyData) : Prop where
  s : sq r = true
  p : PyData.depth r ≤ PyData.depth d + 4
  w : nn r ≤ nn d + 25
theorem cut_lo {ds : List PyData} {k : Nat} (h : k ≤ ds.length) : cutA ds none (some (k : Int)) = ds.take k := by
  unfold cutA
  rw [HT.sIx_none, HT.sIx_nat, List.drop_zero]
  congr 1
  omega
theorem cut_hi {ds : List PyData} {k : Nat} (h : k ≤ ds.length) : cutA ds (some (k : Int)) none = ds.drop k := by
  unfold cutA
  rw [HT.sIx_none, HT.sIx_nat, Nat.min_eq_left h]
  rw [List.take_of_length_le]
  rw [List.length_drop]
  omega
theorem cut_sub {ds : List PyData} {lo hi : Option Int} : ∃ i j, cutA ds lo hi = (ds.drop i).take j := ⟨_, _, rfl⟩
theorem depthAll_app (a b : List PyData) : PyData.depthAll (a ++ b) = max (PyData.depthAll a) (PyData.depthAll b) := by
  induction a with
  | nil => show PyData.depthAll b = max 0 _; omega
  | cons x a ih =>
    rw [List.cons_append]
    simp only [PyData.depthAll, ih]
    omega
theorem depthAll_sub {a b : List PyData} (h : ∀ x ∈ a, x ∈ b) : PyData.depthAll a ≤ PyData.depthAll b := depth_all fun d hd => depth_mem (h d hd)
theorem nnAll_perm {a b : List PyData} (p : a.Perm b) : nnAll a = nnAll b := by
  induction p with
  | nil => rfl
  | cons x _ ih => simp only [nnAll, ih]
  | swap x y l => simp only [nnAll]; omega
  | trans _ _ i1 i2 => rw [i1, i2]
theorem sq_tup {ds : List PyData} (l : ds.length ≤ 20) (h : sqAll ds = true) : sq (.tuple ds) = true := by simp only [sq, h, decide_eq_true l, Bool.and_self]
/-- what is put in the place of a tuple -/
theorem be_list {ds : List PyData} {o : PyData} (c : cq (.tuple ds) = true) (ho : OdW o) : ∀ r ∈ [PyData.tuple (cutA ds none (some (-1))), .tuple (ds ++ [o]), .list ds, .tuple ds.reverse], BeW (.tuple ds) r := by
  have hs := cq_sqAll ds (cq_tup c)
  have c2 := c
  simp only [cq, Bool.and_eq_true, decide_eq_true_eq, Bool.not_eq_true'] at c2
  have dt := depth_tup ds
  have op := ho.p
  have ow := ho.w
  intro r hr
  simp only [List.mem_cons, List.not_mem_nil, or_false] at hr
  rcases hr with rfl | rfl | rfl | rfl
  · obtain ⟨i, j, e⟩ := cut_sub (ds := ds) (lo := none) (hi := some (-1))
    rw [e]
    have mem : ∀ x ∈ (ds.drop i).take j, x ∈ ds := fun x hx => List.mem_of_mem_drop (List.mem_of_mem_take hx)
    have l : ((ds.drop i).take j).length ≤ ds.length := by rw [List.length_take, List.length_drop]; omega
    refine ⟨sq_tup (by omega) (sqAll_of fun x hx => sqAll_mem hs (mem x hx)), ?_, ?_⟩
    · have := depthAll_sub mem
      rw [depth_tup]
      omega
    · have a := nn_take j (ds.drop i)
      have b := nn_drop i ds
      simp only [nn]
      omega
  · refine ⟨sq_tup (by rw [List.length_append, List.length_singleton]; omega) (sqAll_app hs (by simp only [sqAll, ho.s, Bool.and_self])), ?_, ?_⟩
    · rw [depth_tup, depthAll_app]
      simp only [PyData.depthAll]
      omega
    · simp only [nn, nnAll_app, nnAll]
      omega
  · refine ⟨?_, ?_, ?_⟩
    · simp only [sq, hs, c2.2.1, decide_eq_true (show ds.length ≤ 20 by omega), Bool.not_false, Bool.and_self]
    · simp only [PyData.depth]
      omega
    · simp only [nn]
      omega
  · refine ⟨sq_tup (by rw [List.length_reverse]; omega) (sqAll_of fun x hx => sqAll_mem hs (List.mem_reverse.mp hx)), ?_, ?_⟩
    · have := depthAll_sub (a := ds.reverse) (b := ds) fun x hx => List.mem_reverse.mp hx
      rw [depth_tup]
      omega
    · have := nnAll_perm (List.reverse_perm ds)
      simp only [nn]
      omega
theorem be_odd {d o : PyData} (ho : OdW o) : BeW d o := by
  have op := ho.p
  have ow := ho.w
  exact ⟨ho.s, by omega, by omega⟩
/-- one member bent -/
theorem be_in {ds : List PyData} {k : Nat} {d r : PyData} (c : cq (.tuple ds) = true) (hd : ds[k]? = some d) (hr : BeW d r) : BeW (.tuple ds) (.tuple ((ds.take k ++ [r]) ++ ds.drop (k + 1))) := by
  have hs := cq_sqAll ds (cq_tup c)
  have c2 := c
  simp only [cq, Bool.and_eq_true, decide_eq_true_eq] at c2
  have hk := (List.getElem?_eq_some_iff.mp hd).1
  have dt := depth_tup ds
  have hm := depth_mem (List.mem_of_getElem? hd)
  have rp := hr.p
  have rw' := hr.w
  have split : ds = (ds.take k ++ [d]) ++ ds.drop (k + 1) := by
    have a := List.take_append_drop (k + 1) ds
    rw [List.take_add_one, hd] at a
    exact a.symm
  refine ⟨sq_tup ?_ (sqAll_app (sqAll_app (sqAll_of fun x hx => sqAll_mem hs (List.mem_of_mem_take hx)) (by simp only [sqAll, hr.s, Bool.and_self])) (sqAll_of fun x hx => sqAll_mem hs (List.mem_of_mem_drop hx))), ?_, ?_⟩
  · simp only [List.length_append, List.length_take, List.length_drop, List.length_singleton]
    omega
  · have a := depthAll_sub (a := ds.take k) (b := ds) fun x hx => List.mem_of_mem_take hx
    have b := depthAll_sub (a := ds.drop (k + 1)) (b := ds) fun x hx => List.mem_of_mem_drop hx
    rw [depth_tup, depthAll_app, depthAll_app]
    simp only [PyData.depthAll]
    omega
  · have e : nnAll ds = nnAll (ds.take k) + nn d + nnAll (ds.drop (k + 1)) := by
      have h := congrArg nnAll split
      rw [nnAll_app, nnAll_app] at h
      simp only [nnAll] at h
      omega
    simp only [nn, nnAll_app, nnAll]
    omega
def kBe (n : Nat) : Nat := 10 * (n + 1)
def spBe (n : Nat) : Sp := fun vs H Q _ => ∃ (a l : Addr) (y c : Int) (ps : List (Str × Str)) (qs rs : List Str) (v : V) (d : PyData), vs = [.ref a, .ref l, v] ∧ Dw H a l y c ps qs rs ∧ c + kBe n ≤ 900000 ∧ Shw H v d ∧ cq d = true ∧ PyData.depth d ≤ n ∧ Drw a y c (kBe n) (BeW d) H Q
def beR : TS := fun Dn σ H => ∃ (a l : Addr) (y c : Int) (ps : List (Str × Str)) (qs rs : List Str) (v : V) (d : PyData), σ = [some (.ref a), some (.ref l), some v, none, none] ∧ Dw H a l y c ps qs rs ∧ c + 10 ≤ 900000 ∧ Shw H v d ∧ cq d = true ∧ Drw a y c 10 (BeW d) H Dn.rt ∧
  ∀ (d0 : PyData) (ds : List PyData) (c' : Int) (H' : Hp), d = .tuple (d0 :: ds) → Grw a H H' → CrAt H' a y c' → c' ≤ c + 1 → Dn.nx [some (.ref a), some (.ref l), some v, none, none] H'
section
variable {P : Program} {w : World} {K : PySem.W.Frag} {mg : Str → Option Value} {base : Heap}
theorem be_body {f : Addr} {cdv : Value} {A : Around} {outer : List Env} {s : Shared} {H0 : Hp} {E : XK} {k : Nat} (hr : Room k (A.deeper (envOfC "_law_bent" (defScope sBe) s.heap.objs.size f cdv))) (hk : 3 ≤ k) (B : Free mg)
    (Fi : Fnc P w K mg base CX0 1 "_law_fish" ["_law_creel_here", "_law_total"] spFish) (On : Fnc P w K mg base CX0 2 "_law_one_of" ["_law_creel_here", "_law_items"] spOne) (Od : Fnc P w K mg base CX0 3 "_law_odd" ["_law_creel_here", "_law_parts_here"] spOd) :
    ∃ st rest, defBody sBe = st :: rest ∧ PS (cxOf CX0 P w K mg base nBe "_law_bent" (defScope sBe) f cdv A outer s H0 E).nox st beR := by
  refine ⟨_, _, rfl, ps_imp (ps_if (pt_imp (PW.pt <| pw_or (pt_not (pt_val (pe_callB call_isi (by rfl) (Free.isinstance B) (by decide +kernel) (pa_cons (pv 2) (pa_cons (pe_bltn (v := .ty "tuple") (by rfl) (Free.tuple B) (by decide +kernel) rfl) pa_nil))))) <| pw_or (pt_cmpR (op_eqNil hr.units) (pv 2) (pe_tup pa_nil) (nomark _)) <| pw_or1 (pt_cmpR op_eq (pe_fnc Fi hr (by omega) (by rfl) pass0 (pa_cons (pv 0) (pa_cons pe_int pa_nil))) pe_int (nomark _)))
        (u := fun σ H k => ∃ (a l : Addr) (y c : Int) (v : V) (d : PyData), σ = [some (.ref a), some (.ref l), some v, none, none] ∧ CrAt H a y c ∧ c < 1000000 ∧ Shw H v d ∧ ∀ b c' H', (b = false → ∃ d0 ds, d = .tuple (d0 :: ds)) → Grw a H H' → CrAt H' a y c' → c' ≤ c + 1 → k b H') (fun σ H k h => ?_))
      (pss_cons (ps_set (i := 3) scBe.nd rfl (.inl rfl) (pe_lst (pa_cons (pe_fnc Od hr (by omega) (by rfl) pass0 (pa_cons (pv 0) (pa_cons (pv 1) pa_nil))) (pa_cons (pe_fnc Od hr (by omega) (by rfl) pass0 (pa_cons (pv 0) (pa_cons (pv 1) pa_nil))) pa_nil)))) <|
        C8.pss_cut (ps_if (pt_val (pe_callB call_isi (by rfl) (Free.isinstance B) (by decide +kernel) (pa_cons (pv 2) (pa_cons (pe_bltn (v := .ty "tuple") (by rfl) (Free.tuple B) (by decide +kernel) rfl) pa_nil)))) (pss_one (ps_set (i := 3) scBe.nd rfl (.inl rfl) (pe_op op_cat (pv 3) (pe_lst (pa_cons (pe_slice sl_tupA (pv 2) po_none (po_some (pe_un un_neg pe_int))) (pa_cons (pe_op op_catA (pv 2) (pe_tup (pa_cons (pe_fnc Od hr (by omega) (by rfl) pass0 (pa_cons (pv 0) (pa_cons (pv 1) pa_nil))) pa_nil))) (pa_cons (pe_callTy call_list_of (by rfl) (Free.list B) (by decide +kernel) (pa_cons (pv 2) pa_nil)) (pa_cons (pe_tupBack (pv 2)) pa_nil)))))))) pss_nil) <|
        pss_one (ps_ret (pe_fnc On hr (by omega) (by rfl) pass0 (pa_cons (pv 0) (pa_cons (pv 3) pa_nil))))) pss_nil) ?_⟩
  · obtain ⟨a, l, y, c, v, d, rfl, C, hc, sh, k1⟩ := h
    refine ⟨v, rfl, v, .ty "tuple", _, _, isTup d, rfl, .ty _, shw_ty sh, kit_ty (kit_tup d), isTup d, rfl, ?_⟩
    have no : ∀ b : Bool, b = true → (b = false → ∃ d0 ds, d = .tuple (d0 :: ds)) := fun b e h => by rw [e] at h; cases h
    cases sh with
    | non => exact iteT (k1 true c H (no _ rfl) (Grw.of (Same.refl _)) C (by omega))
    | bl _ => exact iteT (k1 true c H (no _ rfl) (Grw.of (Same.refl _)) C (by omega))
    | int _ => exact iteT (k1 true c H (no _ rfl) (Grw.of (Same.refl _)) C (by omega))
    | str _ => exact iteT (k1 true c H (no _ rfl) (Grw.of (Same.refl _)) C (by omega))
    | lst _ _ => exact iteT (k1 true c H (no _ rfl) (Grw.of (Same.refl _)) C (by omega))
    | dct _ => exact iteT (k1 true c H (no _ rfl) (Grw.of (Same.refl _)) C (by omega))
    | @tup b xs ds e hb =>
      refine iteF ⟨.ref b, rfl, le_line (by simp), fun t nt => ?_⟩
      have w1 := same_upd (p := t) (o := .tup []) nt
      refine ⟨xs, ⟨b, t, rfl, rfl, .inr ⟨SqT.of (w1 _ _ e), SqT.of upd_same⟩⟩, _, rfl, ?_⟩
      have C1 := C.same w1
      cases hb with
      | nil => exact iteT (k1 true c _ (no _ rfl) (Grw.of w1) C1 (by omega))
      | @cons x0 xs' d0 ds' h0 hb' =>
        refine iteF ⟨.ref a, rfl, ?_⟩
        (first | refine (use_fish (t := 4) C1 (by omega) (by decide) (by decide) fun r c' H' r0 r1 C' l' g' => ?_) | (show tNil _ _ _; unfold tNil; refine (use_fish (t := 4) C1 (by omega) (by decide) (by decide) fun r c' H' r0 r1 C' l' g' => ?_)) | ((try unfold tCons); (try unfold tNil); (try unfold tC); refine (use_fish (t := 4) C1 (by omega) (by decide) (by decide) fun r c' H' r0 r1 C' l' g' => ?_)))
        exact ⟨rfl, _, rfl, k1 _ c' H' (fun _ => ⟨d0, ds', rfl⟩) ((Grw.of w1).trans g') C' l'⟩
  · rintro Dn σ H ⟨a, l, y, c, ps, qs, rs, v, d, rfl, D, hc, sh, cqd, q, nx⟩
    refine ⟨a, l, y, c, v, d, rfl, D.cr, by omega, sh, fun b c1 H1 hb G1 C1 l1 => ?_⟩
    cases b with
    | false =>
      obtain ⟨d0, ds, e⟩ := hb rfl
      exact iteF (nx d0 ds c1 H1 e G1 C1 l1)
    | true =>
      have D1 := D.grw G1 C1
      have od := (cq_gd d cqd).2.1
      have sh1 := Shw.grw D.cr G1 od sh
      refine iteT ⟨.ref a, rfl, .ref l, rfl, ?_⟩
      (first | refine (⟨a, l, y, c1, ps, qs, rs, rfl, D1, by omega, fun v2 d2 c2 H2 wd2 s2 C2 l2 G2 => ?_⟩) | (show tNil _ _ _; unfold tNil; refine (⟨a, l, y, c1, ps, qs, rs, rfl, D1, by omega, fun v2 d2 c2 H2 wd2 s2 C2 l2 G2 => ?_⟩)) | ((try unfold tCons); (try unfold tNil); (try unfold tC); refine (⟨a, l, y, c1, ps, qs, rs, rfl, D1, by omega, fun v2 d2 c2 H2 wd2 s2 C2 l2 G2 => ?_⟩)))
      have D2 := D1.grw G2 C2
      refine ⟨.ref a, rfl, .ref l, rfl, ?_⟩
      (first | refine (⟨a, l, y, c2, ps, qs, rs, rfl, D2, by omega, fun v3 d3 c3 H3 wd3 s3 C3 l3 G3 => ?_⟩) | (show tNil _ _ _; unfold tNil; refine (⟨a, l, y, c2, ps, qs, rs, rfl, D2, by omega, fun v3 d3 c3 H3 wd3 s3 C3 l3 G3 => ?_⟩)) | ((try unfold tCons); (try unfold tNil); (try unfold tC); refine (⟨a, l, y, c2, ps, qs, rs, rfl, D2, by omega, fun v3 d3 c3 H3 wd3 s3 C3 l3 G3 => ?_⟩)))
      have D3 := D2.grw G3 C3
      have s23 := Shw.grw C2 G3 (sq_ok d2 wd2.s).off s2
      have sh3 := Shw.grw C2 G3 od (Shw.grw C1 G2 od sh1)
      refine ⟨le_line (by simp), fun L nL => ?_⟩
      have w4 := same_upd (p := L) (o := .lst [v2, v3]) nL
      have La := C3.ne nL
      have G4 := ((G1.trans G2).trans G3).trans (Grw.of w4)
      have sl : ShwAll (upd H3 L (.lst [v2, v3])) [v2, v3] [d2, d3] := .cons (Shw.same s23 w4) (.cons (Shw.same s3 w4) .nil)
      have D4 := D3.same w4
      have sh4 := Shw.same sh3 w4
      have eL : (upd H3 L (.lst [v2, v3])) L = some (.lst [v2, v3]) := upd_same
      generalize upd H3 L (.lst [v2, v3]) = H4 at G4 sl D4 sh4 eL ⊢
      refine ⟨fun σ' H' => ∃ (M : Addr) (xs : List V) (es : List PyData) (c' : Int), σ' = [some (.ref a), some (.ref l), some v, some (.ref M), none] ∧ M ≠ a ∧ H' M = some (.lst xs) ∧ ShwAll H' xs es ∧ (∀ r ∈ es, BeW d r) ∧ 0 < es.length ∧ es.length ≤ 10 ∧ CrAt H' a y c' ∧ c' ≤ c + 8 ∧ Grw a H H', ?_, ?_⟩
      · refine ⟨v, rfl, v, .ty "tuple", _, _, isTup d, rfl, .ty _, shw_ty sh4, kit_ty (kit_tup d), isTup d, rfl, ?_⟩
        have base : ∃ (M : Addr) (xs : List V) (es : List PyData) (c' : Int), [some (V.ref a), some (.ref l), some v, some (.ref L), none] = [some (V.ref a), some (.ref l), some v, some (.ref M), none] ∧ M ≠ a ∧ H4 M = some (.lst xs) ∧ ShwAll H4 xs es ∧ (∀ r ∈ es, BeW d r) ∧ 0 < es.length ∧ es.length ≤ 10 ∧ CrAt H4 a y c' ∧ c' ≤ c + 8 ∧ Grw a H H4 :=
          ⟨L, [v2, v3], [d2, d3], c3, rfl, La, eL, sl, fun r hr => by
            simp only [List.mem_cons, List.not_mem_nil, or_false] at hr
            rcases hr with rfl | rfl
            · exact be_odd wd2
            · exact be_odd wd3, by simp, by simp, D4.cr, by omega, G4⟩
        cases d with
        | tuple ds =>
          obtain ⟨b, xs, rfl, e, hb⟩ := shwT sh4
          have ln := ShwAll.len hb
          have c4 : ds.length ≤ 4 := by
            simp only [cq, Bool.and_eq_true, decide_eq_true_eq] at cqd
            exact cqd.1
          refine iteT ⟨.ref L, rfl, .ref b, rfl, ?_⟩
          (first | (show tNoPart _ _ _; unfold tNoPart) | skip)
          refine ⟨1, rfl, -1, rfl, cut_shw sh4 fun v5 H5 w5 s5 => ?_⟩
          have e5 := w5 _ _ e
          refine ⟨.ref b, rfl, .ref a, rfl, .ref l, rfl, ?_⟩
          (first | refine (⟨a, l, y, c3, ps, qs, rs, rfl, D4.same w5, by omega, fun v6 d6 c6 H6 wd6 s6 C6 l6 G6 => ?_⟩) | (show tNil _ _ _; unfold tNil; refine (⟨a, l, y, c3, ps, qs, rs, rfl, D4.same w5, by omega, fun v6 d6 c6 H6 wd6 s6 C6 l6 G6 => ?_⟩)) | ((try unfold tCons); (try unfold tNil); (try unfold tC); refine (⟨a, l, y, c3, ps, qs, rs, rfl, D4.same w5, by omega, fun v6 d6 c6 H6 wd6 s6 C6 l6 G6 => ?_⟩)))
          refine ⟨le_line (by simp), fun t nt => ?_⟩
          have w7 := same_upd (p := t) (o := .tup [v6]) nt
          have D5 := D4.same w5
          have sh6 := Shw.grw D5.cr G6 od (Shw.same sh4 w5)
          refine cat_shw (Shw.same sh6 w7) (.tup upd_same (.cons (Shw.same s6 w7) .nil)) (le_line (by simp only [List.length_cons, List.length_nil]; omega)) fun v8 H8 w8 s8 => ?_
          have w78 := w7.trans w8
          have e8 := w78 _ _ (D5.cr.tup G6 e5)
          refine ⟨.ref b, rfl, b, xs, rfl, .inr (SqT.of e8), fun L9 n9 => ?_⟩
          have w9 := same_upd (p := L9) (o := .lst xs) n9
          refine ⟨.ref b, rfl, b, xs, rfl, SqT.of (w9 _ _ e8), fun t10 n10 => ⟨le_line (by simp), fun L11 n11 => ?_⟩⟩
          have w10 := same_upd (p := t10) (o := .tup xs.reverse) n10
          have w11 := same_upd (p := L11) (o := .lst [v5, v8, .ref L9, .ref t10]) n11
          have lL := G6 _ _ La (w5 _ _ eL)
          have w811 := w78.trans ((w9.trans w10).trans w11)
          refine ⟨L, L11, _, _, rfl, rfl, w811 _ _ lL, upd_same, le_line (by simp), fun M nM => ?_⟩
          have w12 := same_upd (p := M) (o := .lst ([v2, v3] ++ [v5, v8, .ref L9, .ref t10])) nM
          have wAll := w811.trans w12
          have hb6 := ShwAll.grw D5.cr G6 (cq_gdAll _ (cq_tup cqd)).2.1 (ShwAll.same hb w5)
          have o5 : offD (.tuple (cutA ds none (some (-1)))) = true := (sq_ok _ (be_list cqd wd6 _ (by simp)).s).off
          refine ⟨M, [v2, v3] ++ [v5, v8, .ref L9, .ref t10], [d2, d3] ++ [.tuple (cutA ds none (some (-1))), .tuple (ds ++ [d6]), .list ds, .tuple ds.reverse], c6, rfl, (C6.same w811).ne nM, upd_same, ?_, ?_, by simp, by simp, C6.same wAll, by omega, ?_⟩
          · refine ShwAll.append ?_ ?_
            · have oll : offAll [d2, d3] = true := by simp only [offAll, (sq_ok d2 wd2.s).off, (sq_ok d3 wd3.s).off, Bool.and_self]
              exact ShwAll.same (ShwAll.grw D5.cr G6 oll (ShwAll.same sl w5)) wAll
            · refine .cons (Shw.same (Shw.grw D5.cr G6 o5 s5) wAll) (.cons (Shw.same s8 ((w9.trans w10).trans (w11.trans w12))) (.cons (.lst (((w10.trans w11).trans w12) _ _ upd_same) (ShwAll.same hb6 wAll)) (.cons (.tup ((w11.trans w12) _ _ upd_same) (ShwAll.same (ShwAll.rev hb6) wAll)) .nil)))
          · intro r hr
            rcases List.mem_append.mp hr with hr | hr
            · simp only [List.mem_cons, List.not_mem_nil, or_false] at hr
              rcases hr with rfl | rfl
              · exact be_odd wd2
              · exact be_odd wd3
            · exact be_list cqd wd6 r hr
          · exact ((G4.trans (Grw.of w5)).trans G6).trans (Grw.of wAll)
        | none => exact iteF base
        | bool _ => exact iteF base
        | int _ => exact iteF base
        | str _ => exact iteF base
        | list _ => exact iteF base
        | dict _ => exact iteF base
      · rintro σ' H' ⟨M, xs, es, c', rfl, Ma, eM, sx, be, l0, l10, C', l', G'⟩
        refine ⟨.ref a, rfl, .ref M, rfl, ?_⟩
        (first | refine (use_one C' (by omega) eM Ma sx l0 (by omega) (offAll_mem fun r hr => (sq_ok r (be r hr).s).off) fun r d9 c9 H9 hd sr C9 l9 G9 => ?_) | (show tNil _ _ _; unfold tNil; refine (use_one C' (by omega) eM Ma sx l0 (by omega) (offAll_mem fun r hr => (sq_ok r (be r hr).s).off) fun r d9 c9 H9 hd sr C9 l9 G9 => ?_)) | ((try unfold tCons); (try unfold tNil); (try unfold tC); refine (use_one C' (by omega) eM Ma sx l0 (by omega) (offAll_mem fun r hr => (sq_ok r (be r hr).s).off) fun r d9 c9 H9 hd sr C9 l9 G9 => ?_)))
        exact q r d9 c9 H9 (be d9 hd) sr C9 (by omega) (G'.trans G9)
end
end K03

set_option autoImplicit false
set_option maxRecDepth 100000
set_option maxHeartbeats 4000000
/-! claims bent: the def, by depth -/
namespace K03
open PySem PySem.Spec PyProof.Rows L2 KX
section
variable {P : Program} {w : World} {K : PySem.W.Frag} {mg : Str → Option Value} {base : Heap}
theorem ok_be {f : Addr} {fd : FuncData} (F : Fun K "_law_bent" "_law_bent" sBe f fd) (hb : Binds K fd ["_law_creel_here", "_law_parts_here", "_law_value"] []) (hm : mg "_law_bent" = some (.ref f)) (B : Free mg)
    (Fi : Fnc P w K mg base CX0 1 "_law_fish" ["_law_creel_here", "_law_total"] spFish) (On : Fnc P w K mg base CX0 2 "_law_one_of" ["_law_creel_here", "_law_items"] spOne) (Od : Fnc P w K mg base CX0 3 "_law_odd" ["_law_creel_here", "_law_parts_here"] spOd) :
    ∀ n, FnOk P w K mg base CX0 (4 + n) f fd ["_law_creel_here", "_law_parts_here", "_law_value"] (spBe n)
  | 0 => by
    show FnOk P w K mg base CX0 (3 + 1) f fd _ _
    refine F.ok scBe (fun vs H Q E h => ?_) (fun cdv A outer s H vs Q E hr h => ?_)
    · obtain ⟨a, l, y, c, ps, qs, rs, v, d, rfl, _⟩ := h
      rfl
    · obtain ⟨a, l, y, c, ps, qs, rs, v, d, rfl, D, hc, sh, cqd, dp, q⟩ := h
      obtain ⟨st, rest, eb, hst⟩ := be_body (P := P) (w := w) (K := K) (mg := mg) (base := base) (f := f) (cdv := cdv) (A := A) (outer := outer) (s := s) (H0 := H) (E := E) hr (by omega) B Fi On Od
      have es : defBody sBe = [st] ++ rest := eb
      have hc : c + (10 : Nat) ≤ 900000 := hc
      have nt : ∀ d0 ds, d = .tuple (d0 :: ds) → False := fun d0 ds e => by
        rw [e, depth_tup] at dp
        omega
      have two : ∃ s1 s2, rest = [s1, s2] := by
        have := eb
        cases this
        exact ⟨_, _, rfl⟩
      obtain ⟨s1, s2, rfl⟩ := two
      rw [eb]
      refine ⟨_, pss_cons hst (pss_cons ps_never (pss_one ps_never)), ?_⟩
      exact ⟨a, l, y, c, ps, qs, rs, v, d, rfl, D, by omega, sh, cqd, fun r d' c' H' wd s C' l' g' => q r d' c' H' wd s C' l' g', fun d0 ds c' H' e _ _ _ => absurd e (fun e => nt d0 ds e)⟩
  | n + 1 => by
    have ih := ok_be F hb hm B Fi On Od n
    have Rc : Fnc P w K mg base CX0 (4 + n) "_law_bent" ["_law_creel_here", "_law_parts_here", "_law_value"] (spBe n) := ⟨⟨f, fd, ih, hb, hm, F.kp⟩⟩
    show FnOk P w K mg base CX0 ((4 + n) + 1) f fd _ _
    refine F.ok scBe (fun vs H Q E h => ?_) (fun cdv A outer s H vs Q E hr h => ?_)
    · obtain ⟨a, l, y, c, ps, qs, rs, v, d, rfl, _⟩ := h
      rfl
    · obtain ⟨a, l, y, c, ps, qs, rs, v, d, rfl, D, hc, sh, cqd, dp, q⟩ := h
      obtain ⟨st, rest, eb, hst⟩ := be_body (P := P) (w := w) (K := K) (mg := mg) (base := base) (f := f) (cdv := cdv) (A := A) (outer := outer) (s := s) (H0 := H) (E := E) hr (by omega) B Fi On Od
      have tail : ∃ t, PSs (cxOf CX0 P w K mg base nBe "_law_bent" (defScope sBe) f cdv A outer s H E).nox rest t ∧
          ∀ (d0 : PyData) (ds : List PyData) (c' : Int) (H' : Hp), d = .tuple (d0 :: ds) → Grw a H H' → CrAt H' a y c' → c' ≤ c + 1 → t { nx := fun _ H' => Q .non H', rt := Q } [some (.ref a), some (.ref l), some v, none, none] H' := by
        have := eb
        cases this
        refine ⟨_, pss_cons (ps_set (i := 4) scBe.nd rfl (.inl rfl) (pe_fnc Fi hr (by omega) (by rfl) pass0 (pa_cons (pv 0) (pa_cons (pe_callB call_len_seq (by rfl) (Free.len B) PySem.boot_len (pa_cons (pv 2) pa_nil)) pa_nil)))) <|
          pss_one (ps_ret (pe_op op_catA (pe_op op_catA (pe_slice sl_tupA (pv 2) po_none (po_some (pv 4))) (pe_tup (pa_cons (pe_fnc Rc hr (by omega) (by rfl) pass0 (pa_cons (pv 0) (pa_cons (pv 1) (pa_cons (pe_ix ix_tup (pv 2) (pv 4) (fun _ _ => rfl)) pa_nil)))) pa_nil))) (pe_slice sl_tupA (pv 2) (po_some (pe_op op_add (pv 4) pe_int)) po_none))), ?_⟩
        rintro d0 ds0 c1 H1 rfl G1 C1 l1
        generalize hds : d0 :: ds0 = ds at *
        have lpos : 0 < ds.length := by rw [← hds]; exact Nat.succ_pos _
        have D1 := D.grw G1 C1
        have od := (cq_gd _ cqd).2.1
        have sh1 := Shw.grw D.cr G1 od sh
        obtain ⟨b, xs, rfl, e, hb1⟩ := shwT sh1
        have ln := ShwAll.len hb1
        have c4 : ds.length ≤ 4 := by
          simp only [cq, Bool.and_eq_true, decide_eq_true_eq] at cqd
          exact cqd.1
        refine ⟨.ref a, rfl, .ref b, rfl, b, xs, rfl, .inr (SqT.of e), ?_⟩
        (first | refine (use_fish (t := (xs.length : Int)) C1 (by omega) (by omega) (by omega) fun r c2 H2 r0 r1 C2 l2 G2 => ?_) | (show tNil _ _ _; unfold tNil; refine (use_fish (t := (xs.length : Int)) C1 (by omega) (by omega) (by omega) fun r c2 H2 r0 r1 C2 l2 G2 => ?_)) | ((try unfold tCons); (try unfold tNil); (try unfold tC); refine (use_fish (t := (xs.length : Int)) C1 (by omega) (by omega) (by omega) fun r c2 H2 r0 r1 C2 l2 G2 => ?_)))
        have D2 := D1.grw G2 C2
        have sh2 := Shw.grw C1 G2 od sh1
        have e2 := C1.tup G2 e
        have hb2 := ShwAll.grw C1 G2 (cq_gdAll _ (cq_tup cqd)).2.1 hb1
        have hrl : r.toNat < ds.length := by omega
        have er : ((r.toNat : Nat) : Int) = r := Int.toNat_of_nonneg r0
        have hd : ds[r.toNat]? = some ds[r.toNat] := List.getElem?_eq_getElem hrl
        have hx : xs[r.toNat]? = some (xs[r.toNat]'(by omega)) := List.getElem?_eq_getElem _
        obtain ⟨d1, hd1, sd1⟩ := ShwAll.get hb2 hx
        rw [hd] at hd1
        have hd1 := Option.some.inj hd1
        refine ⟨.ref b, rfl, ?_⟩
        (first | (show tNoPart _ _ _; unfold tNoPart) | skip)
        refine ⟨.int r, rfl, r, rfl, cut_shw sh2 fun v3 H3 w3 s3 => ?_⟩
        rw [← er, cut_lo (by omega)] at s3
        have e3 := w3 _ _ e2
        have ai : atI xs r = some (xs[r.toNat]'(by omega)) := by
          have := atI_nat (xs := xs) hx
          rw [er] at this
          exact this
        refine ⟨.ref a, rfl, .ref l, rfl, .ref b, rfl, .int r, rfl, b, xs, r, _, rfl, rfl, SqT.of e3, ai, ?_⟩
        have cd1 : cq ds[r.toNat] = true := cqAll_mem (cq_tup cqd) (List.getElem_mem hrl)
        have dd1 : PyData.depth ds[r.toNat] ≤ n := by
          have := depth_mem (List.getElem_mem hrl)
          rw [depth_tup] at dp
          omega
        rw [← hd1] at sd1
        have kk : kBe (n + 1) = kBe n + 10 := by unfold kBe; omega
        (first | refine (⟨a, l, y, c2, ps, qs, rs, _, ds[r.toNat], rfl, D2.same w3, by omega, Shw.same sd1 w3, cd1, dd1, fun v4 d4 c4' H4 wd4 s4 C4 l4 G4 => ?_⟩) | (show tNil _ _ _; unfold tNil; refine (⟨a, l, y, c2, ps, qs, rs, _, ds[r.toNat], rfl, D2.same w3, by omega, Shw.same sd1 w3, cd1, dd1, fun v4 d4 c4' H4 wd4 s4 C4 l4 G4 => ?_⟩)) | ((try unfold tCons); (try unfold tNil); (try unfold tC); refine (⟨a, l, y, c2, ps, qs, rs, _, ds[r.toNat], rfl, D2.same w3, by omega, Shw.same sd1 w3, cd1, dd1, fun v4 d4 c4' H4 wd4 s4 C4 l4 G4 => ?_⟩)))
        refine ⟨le_line (by simp), fun t nt => ?_⟩
        have w5 := same_upd (p := t) (o := .tup [v4]) nt
        have C2' := C2.same w3
        have otk : offD (.tuple (ds.take r.toNat)) = true := by
          simp only [offD]
          exact offAll_mem fun x hx => (cq_gd x (cqAll_mem (cq_tup cqd) (List.mem_of_mem_take hx))).2.1
        refine cat_shw (Shw.same (Shw.grw C2' G4 otk s3) w5) (.tup upd_same (.cons (Shw.same s4 w5) .nil)) (le_line (by rw [List.length_take]; simp only [List.length_cons, List.length_nil]; omega)) fun v6 H6 w6 s6 => ?_
        have w56 := w5.trans w6
        have sh6 := Shw.same (Shw.grw C2' G4 od (Shw.same sh2 w3)) w56
        refine ⟨.ref b, rfl, .int r, rfl, _, _, rfl, rfl, r + 1, rfl, ?_⟩
        (first | (show tNoPart _ _ _; unfold tNoPart) | skip)
        refine cut_shw sh6 fun v7 H7 w7 s7 => ?_
        have er1 : r + 1 = ((r.toNat + 1 : Nat) : Int) := by omega
        rw [er1, cut_hi (by omega)] at s7
        refine cat_shw (Shw.same s6 w7) s7 (le_line (by rw [List.length_append, List.length_take, List.length_drop]; simp only [List.length_cons, List.length_nil]; omega)) fun v8 H8 w8 s8 => ?_
        have w78 := w7.trans w8
        exact q v8 _ c4' H8 (be_in cqd hd wd4) s8 ((C4.same w56).same w78) (by omega) ((((G1.trans G2).trans (Grw.of w3)).trans G4).trans (Grw.of (w56.trans w78)))
      obtain ⟨t, ht, tl⟩ := tail
      rw [eb]
      refine ⟨_, pss_cons hst ht, ?_⟩
      have kk : kBe (n + 1) = kBe n + 10 := by unfold kBe; omega
      have kp : 10 ≤ kBe (n + 1) := by unfold kBe; omega
      exact ⟨a, l, y, c, ps, qs, rs, v, d, rfl, D, by omega, sh, cqd, fun r d' c' H' wd s C' l' g' => q r d' c' H' wd s C' (by omega) g', fun d0 ds c' H' e G' C' l' => tl d0 ds c' H' e G' C' l'⟩
end
end K03

set_option autoImplicit false
set_option maxRecDepth 100000
set_option maxHeartbeats 4000000
/-! repr of any data -/
namespace KX
open PySem PySem.Spec PyProof.Rows L2
def rReprD : List V → Hp → VK → Prop := fun vs H Q => ∃ (v : V) (d : PyData), vs = [v] ∧ Shw H v d ∧ d.showable = true ∧ d.depth ≤ 60 ∧ d.shown.length ≤ 1000000 ∧ Q (.str d.shown) H
theorem call_reprD {X : Cx} (hg : X.A.guards = some []) (hu : X.A.units + 64 < cLine) : CallR X (.builtin "repr") rReprD := by
  intro pins s σ H vs us Q I r h
  obtain ⟨v, d, rfl, sh, hs, hd, hz, q⟩ := h
  obtain ⟨u, rfl, rr⟩ := vals1 r
  have hz0 : d.shown.length ≤ sizeLine := by rw [sizeLine_eq]; omega
  cases sh with
  | non =>
    obtain rfl : u = Value.none := rr
    exact PySem.P.repr_of_none ⟨.str _, H, I.tok _, ⟨_, rfl⟩, q⟩
  | bl b =>
    obtain rfl : u = Value.bool b := rr
    exact PySem.P.repr_of_bool ⟨.str _, H, I.tok _, ⟨_, rfl⟩, q⟩
  | int i =>
    obtain ⟨t, rfl⟩ := rr
    exact PySem.P.repr_of_int (by simpa [PyData.showable] using hs) ⟨.str _, H, I.tok _, ⟨_, rfl⟩, q⟩
  | str z =>
    obtain ⟨t, rfl⟩ := rr
    exact PySem.P.repr_of_str ⟨.str _, H, I.tok _, ⟨_, rfl⟩, q⟩ hz0
  | @tup a xs ds e ha =>
    obtain rfl : u = Value.ref a := rr
    have sh : Shw H (.ref a) (.tuple ds) := .tup e ha
    have hz1 : (tupleText (PyData.shownAll ds)).length ≤ sizeLine := by simpa only [PyData.shown] using hz0
    obtain ⟨as0, rd⟩ := shw_reads I.hok (.tuple ds) (.ref a) (.ref a) sh rfl
    obtain ⟨_, its, rv, ⟨o, g, gc, n, gd⟩⟩ := tup_get I.hok e
    obtain ⟨bs, hb, hk⟩ := shw_reprAll I.hok ds _ its ha rv (by simpa only [PyData.showable] using hs) fun t ht => Nat.le_trans (tupleText_mem_le ht) hz1
    have hna := not_mem_of_deeper rd (by simp only [PyData.depth]; omega) hb
    simp only [PyData.depth] at hd
    simp only [PyData.shown] at q
    refine call_repr_slot (T := "tuple") (by omega) ⟨o, g, gc⟩ F.slot_tuple_repr ?_
    refine call_tuple_reprK g gc gd hna (by simpa using hk) hg (fun b _ => Clear.nil b) (by show X.A.units + 1 + _ < _; omega) (fun _ _ z => z) (fun h' t tk kp => ?_) hz1
    exact ⟨_, _, rfl, .str _, H, I.kept kp, ⟨t, rfl⟩, q⟩
  | @lst a xs ds e ha =>
    obtain rfl : u = Value.ref a := rr
    have sh : Shw H (.ref a) (.list ds) := .lst e ha
    cases ha with
    | nil =>
      obtain ⟨as0, rd⟩ := shw_reads I.hok (.list []) (.ref a) (.ref a) sh rfl
      exact repr_of_reads' rd hs (fun h => by simp [PyData.hasDict, PyData.hasDictAll] at h) hg (by simp only [PyData.depth, PyData.depthAll]; omega) (fun _ _ z => z) (fun h' u tk kp => ⟨.str _, H, I.kept kp, ⟨u, rfl⟩, q⟩) hz0
    | @cons x xs' d0 ds' h0 h1 =>
      have ha : ShwAll H (x :: xs') (d0 :: ds') := .cons h0 h1
      have hz1 : (listText (PyData.shownAll (d0 :: ds'))).length ≤ sizeLine := by simpa only [PyData.shown] using hz0
      obtain ⟨as0, rd⟩ := shw_reads I.hok (.list (d0 :: ds')) (.ref a) (.ref a) sh rfl
      obtain ⟨_, its, n, rv, g⟩ := lst_get I.hok e
      obtain ⟨bs, hb, hk⟩ := shw_reprAll I.hok _ _ its ha rv (by simpa only [PyData.showable] using hs) fun t ht => Nat.le_trans (listText_mem_le ht) hz1
      have hna := not_mem_of_deeper rd (by simp only [PyData.depth]; omega) hb
      simp only [PyData.depth] at hd
      simp only [PyData.shown] at q
      cases its with
      | nil => cases rv
      | cons y l =>
        refine call_repr_slot (by omega) ⟨_, g, rfl⟩ F.slot_list_repr.toG ?_
        refine call_list_reprK g rfl rfl hna (by simpa using hk.length_eq) (fun i z w' => hk.item i z (by simpa using w')) hg (fun b _ => Clear.nil b) (by show X.A.units + 1 + _ < _; omega) (fun _ _ z => z) (fun h' t tk kp => ?_) hz1
        exact ⟨_, _, rfl, .str _, H, I.kept kp, ⟨t, rfl⟩, q⟩
  | @dct a e =>
    obtain rfl : u = Value.ref a := rr
    obtain ⟨sy, o, n, g, gc, gd⟩ := dct_get I.hok e
    have rd : Reads s.heap (.ref a) (.dict []) _ := .dict g gc gd (kvs := []) .nil .nil
    refine repr_of_reads' rd hs (fun _ => ?_) hg (by simp only [PyData.depth, PyData.depthKv]; omega) (fun _ _ z => z) (fun h' u tk kp => ⟨.str _, H, I.kept kp, ⟨u, rfl⟩, q⟩) hz0
    simp only [List.append_nil, List.mem_singleton]
    exact fun h => by rw [h] at sy; simp at sy
end KX

set_option autoImplicit false
set_option maxRecDepth 100000
set_option maxHeartbeats 4000000
/-! the law: a claim drawn, its names, and whether it fits -/
namespace K03
open PySem PySem.Spec PyProof.Rows L2 KX
abbrev sRi : Stmt := topS 70
abbrev nRi : List Str := ["_law_creel_here", "_law_parts_here", "_law_frame_here", "_law_claim_here", "_law_turn", "_law_value", "_law_text", "_law_due", "_law_deep", "_law_more", "_law_inner", "_law_guard_here", "_law_whole", "_law_other", "_law_told"]
theorem scRi : FnScope nRi ["_law_creel_here"] (defScope sRi) := ⟨rfl, rfl, rfl, by decide +kernel, rfl, by decide +kernel, by decide +kernel⟩
def stRi (i : Nat) : Stmt := (defBody sRi).getD i (.Pass ⟨0, 0, 0, 0⟩)
theorem FrameAt.grw {C a p : Addr} {y c : Int} {H H' : Hp} {v1 v2 v3 : V} {ps : List (Str × Str)} {qs rs : List Str} (f : FrameAt C H p v1 v2 v3 ps qs rs) (Cr : CrAt H a y c) (g : Grw a H H') : FrameAt C H' p v1 v2 v3 ps qs rs := by
  obtain ⟨⟨dx, t, d, e, h1, h2, h3, h4⟩, h5, h6, h7⟩ := f
  have ne : ∀ {b : Addr} {o : HO}, H b = some o → (∀ xs, o ≠ .lst xs) → b ≠ a := fun {b o} h n z => by
    obtain ⟨x, ha, _⟩ := Cr
    rw [z, ha] at h
    exact n _ (Option.some.inj h).symm
  exact ⟨⟨dx, t, d, e, g _ _ (ne h1 fun _ z => nomatch z) h1, g _ _ (ne h2 fun _ z => nomatch z) h2, g _ _ (ne h3 fun _ z => nomatch z) h3, g _ _ (ne h4 fun _ z => nomatch z) h4⟩, Shw.grw Cr g (by simp only [offD, off_prs]) h5, Txts.grw Cr g h6, Txts.grw Cr g h7⟩
/-- creel, parts and frame -/
structure Rg (C : Addr) (H : Hp) (a l p : Addr) (y c : Int) (ps : List (Str × Str)) (qs rs : List Str) : Prop where
  dw : Dw H a l y c ps qs rs
  fr : ∃ v1 v2 v3, FrameAt C H p v1 v2 v3 ps qs rs
section
variable {C a l p : Addr} {y c c' : Int} {H H' : Hp} {ps : List (Str × Str)} {qs rs : List Str}
theorem Rg.same (r : Rg C H a l p y c ps qs rs) (s : Same H H') : Rg C H' a l p y c ps qs rs := by
  obtain ⟨d, v1, v2, v3, f⟩ := r
  exact ⟨d.same s, v1, v2, v3, f.same s⟩
theorem Rg.grw (r : Rg C H a l p y c ps qs rs) (g : Grw a H H') (k : CrAt H' a y c') : Rg C H' a l p y c' ps qs rs := by
  obtain ⟨d, v1, v2, v3, f⟩ := r
  exact ⟨d.grw g k, v1, v2, v3, f.grw d.cr g⟩
theorem words12 (g : GoodP ps qs rs) : (wordsOf ps qs rs).length ≤ 12 := by
  have g1 := g.l1
  have g2 := g.l2
  have g3 := g.l3
  have := lensOf_le ps
  unfold wordsOf
  simp only [List.length_append, List.length_map]
  omega
theorem Dw.fic {x : V} {own : List Str} (d : Dw H a l y c ps qs rs) (yo : Txts H x own) (lo : own.length ≤ 200) : FiC H l ps qs rs own x := by
  have g1 := d.gp.l1
  have g2 := d.gp.l2
  have g3 := d.gp.l3
  exact ⟨d.pt, d.gp.nd, by omega, by omega, by omega, yo, lo⟩
end
/-- what the law's main def calls -/
structure RG (P : Program) (w : World) (K : PySem.W.Frag) (mg : Str → Option Value) (base : Heap) (C : Addr) : Prop where
  B : Free mg
  mS : mg "sorted" = none
  mRepr : mg "repr" = none
  parts : Fnc P w K mg base CX0 3 "_law_parts" ["_law_creel_here"] spPts
  frame : Fnc P w K mg base CX0 7 "_law_frame" ["_law_parts_here"] (spFrame C)
  claim : ∀ n, Fnc P w K mg base CX0 (8 + n) "_law_claim" ["_law_creel_here", "_law_parts_here", "_law_deep"] (spCl n)
  names : Fnc P w K mg base CX0 23 "names_of" ["frame", "claim"] (spNo C)
  lnames : Fnc P w K mg base CX0 15 "_law_names" ["_law_parts_here", "_law_value"] (spLn 12)
  fits : Fnc P w K mg base CX0 16 "_law_fits" ["_law_parts_here", "_law_own", "_law_kind", "_law_value"] (spFi 12)
  isc : Fnc P w K mg base CX0 21 "is_claim" ["frame", "value"] (spIc C)
  bent : Fnc P w K mg base CX0 11 "_law_bent" ["_law_creel_here", "_law_parts_here", "_law_value"] (spBe 7)
  depth : Fnc P w K mg base CX0 13 "_law_depth" ["_law_value"] (spDp 12)
  one : Fnc P w K mg base CX0 2 "_law_one_of" ["_law_creel_here", "_law_items"] spOne
abbrev RX (P : Program) (w : World) (K : PySem.W.Frag) (mg : Str → Option Value) (base : Heap) (f : Addr) (cdv : Value) (A : Around) (outer : List Env) (s0 : Shared) (H0 : Hp) (E : XK) : Cx := cxOf CX0 P w K mg base nRi "_law_right" (defScope sRi) f cdv A outer s0 H0 E
section
variable {P : Program} {w : World} {K : PySem.W.Frag} {mg : Str → Option Value} {base : Heap} {C f : Addr} {cdv : Value} {A : Around} {outer : List Env} {s0 : Shared} {H0 : Hp} {E : XK} {k : Nat}
def u0 : TS := fun Dn σ H => ∃ (a : Addr) (y c : Int), σ = [some (.ref a), none, none, none, none, none, none, none, none, none, none, none, none, none, none] ∧ CrAt H a y c ∧ c ≤ 100000 ∧
  ∀ (l : Addr) (ps : List (Str × Str)) (qs rs : List Str) (c' : Int) (H' : Hp), Dw H' a l y c' ps qs rs → c' ≤ c + 20 → Grw a H H' → Dn.nx [some (.ref a), some (.ref l), none, none, none, none, none, none, none, none, none, none, none, none, none] H'
theorem ri0 (R : RG P w K mg base C) (hr : Room k (A.deeper (envOfC "_law_right" (defScope sRi) s0.heap.objs.size f cdv))) (hk : 23 ≤ k) : PS (RX P w K mg base f cdv A outer s0 H0 E).nox (stRi 0) u0 := by
  refine ps_imp (ps_set (i := 1) scRi.nd rfl (.inl rfl) (pe_fnc R.parts hr (by omega) (by rfl) pass0 (pa_cons (pv 0) pa_nil))) ?_
  rintro Dn σ H ⟨a, y, c, rfl, ⟨x, ha, C1⟩, hc, q⟩
  refine ⟨.ref a, rfl, ?_⟩
  (first | refine (⟨a, x, y, c, rfl, ha, C1, by omega, fun l v1 v2 v3 ps qs rs x' c' H' g y1 y2 y3 C' e' ha' gr la hl => ?_⟩) | (show tNil _ _ _; unfold tNil; refine (⟨a, x, y, c, rfl, ha, C1, by omega, fun l v1 v2 v3 ps qs rs x' c' H' g y1 y2 y3 C' e' ha' gr la hl => ?_⟩)) | ((try unfold tCons); (try unfold tNil); (try unfold tC); refine (⟨a, x, y, c, rfl, ha, C1, by omega, fun l v1 v2 v3 ps qs rs x' c' H' g y1 y2 y3 C' e' ha' gr la hl => ?_⟩)))
  exact q l ps qs rs c' H' ⟨⟨x', ha', C'⟩, ⟨v1, v2, v3, hl, y1, y2, y3⟩, g, la⟩ e' gr
def u1 (C : Addr) : TS := fun Dn σ H => ∃ (a l : Addr) (y c : Int) (ps : List (Str × Str)) (qs rs : List Str), σ = [some (.ref a), some (.ref l), none, none, none, none, none, none, none, none, none, none, none, none, none] ∧ Dw H a l y c ps qs rs ∧ c ≤ 200000 ∧
  ∀ (p : Addr) (v : V) (d : PyData) (c' : Int) (H' : Hp), Rg C H' a l p y c' ps qs rs → clW ps qs rs 2 d → Shw H' v d → c' ≤ c + 600 → Grw a H H' → Dn.nx [some (.ref a), some (.ref l), some (.ref p), some v, none, none, none, none, none, none, none, none, none, none, none] H'
theorem shw_txts {H : Hp} {v : V} {zs : List Str} (h : Txts H v zs) : Shw H v (.tuple (zs.map PyData.str)) := by
  obtain ⟨b, rfl, e⟩ := h
  exact .tup e (shw_strs zs)
theorem ri1 (R : RG P w K mg base C) (hr : Room k (A.deeper (envOfC "_law_right" (defScope sRi) s0.heap.objs.size f cdv))) (hk : 23 ≤ k) : PS (RX P w K mg base f cdv A outer s0 H0 E).nox (stRi 1) (u1 C) := by
  have Cl : Fnc P w K mg base CX0 10 "_law_claim" ["_law_creel_here", "_law_parts_here", "_law_deep"] (spCl 2) := R.claim 2
  refine ps_imp (ps_asg (pe_tup (pa_cons (pe_fnc R.frame hr (by omega) (by rfl) pass0 (pa_cons (pv 1) pa_nil)) (pa_cons (pe_fnc Cl hr (by omega) (by rfl) pass0 (pa_cons (pv 0) (pa_cons (pv 1) (pa_cons pe_int pa_nil)))) pa_nil))) (pg_tup rfl (pgs_cons (pg_name (i := 2) scRi.nd rfl (Or.inr rfl)) (pgs_cons (pg_name (i := 3) scRi.nd rfl (Or.inl rfl)) pgs_nil)))) ?_
  rintro Dn σ H ⟨a, l, y, c, ps, qs, rs, rfl, D, hc, q⟩
  obtain ⟨v1, v2, v3, hl, y1, y2, y3⟩ := id D.pt
  have gq := D.gp.q
  have gf := gq.frame
  refine ⟨.ref l, rfl, ?_⟩
  (first | refine (⟨l, v1, v2, v3, .tuple (ps.map prD), .tuple (qs.map PyData.str), .tuple (rs.map PyData.str), rfl, hl, y1, shw_txts y2, shw_txts y3, gd_prs18 (by have := gq.l1; omega) gq.w.m1, gd_strs18 (by have := gq.l2; omega) gq.w.m2, gd_strs18 (by have := gq.l3; omega) gq.w.m3, gf, fun p H1 s1 Fr => ?_⟩) | (show tNil _ _ _; unfold tNil; refine (⟨l, v1, v2, v3, .tuple (ps.map prD), .tuple (qs.map PyData.str), .tuple (rs.map PyData.str), rfl, hl, y1, shw_txts y2, shw_txts y3, gd_prs18 (by have := gq.l1; omega) gq.w.m1, gd_strs18 (by have := gq.l2; omega) gq.w.m2, gd_strs18 (by have := gq.l3; omega) gq.w.m3, gf, fun p H1 s1 Fr => ?_⟩)) | ((try unfold tCons); (try unfold tNil); (try unfold tC); refine (⟨l, v1, v2, v3, .tuple (ps.map prD), .tuple (qs.map PyData.str), .tuple (rs.map PyData.str), rfl, hl, y1, shw_txts y2, shw_txts y3, gd_prs18 (by have := gq.l1; omega) gq.w.m1, gd_strs18 (by have := gq.l2; omega) gq.w.m2, gd_strs18 (by have := gq.l3; omega) gq.w.m3, gf, fun p H1 s1 Fr => ?_⟩)))
  rw [prs_back, strs_back, strs_back] at Fr
  have D1 := D.same s1
  have k2 : kC 2 = 522 := rfl
  refine ⟨.ref a, rfl, .ref l, rfl, ?_⟩
  (first | refine (⟨a, l, y, c, ps, qs, rs, rfl, D1, by omega, fun v d c' H2 wd sd C2 l2 G2 => ?_⟩) | (show tNil _ _ _; unfold tNil; refine (⟨a, l, y, c, ps, qs, rs, rfl, D1, by omega, fun v d c' H2 wd sd C2 l2 G2 => ?_⟩)) | ((try unfold tCons); (try unfold tNil); (try unfold tC); refine (⟨a, l, y, c, ps, qs, rs, rfl, D1, by omega, fun v d c' H2 wd sd C2 l2 G2 => ?_⟩)))
  refine ⟨le_line (by simp), fun t nt => ?_⟩
  have w3 := same_upd (p := t) (o := .tup [.ref p, v]) nt
  refine ⟨t, _, rfl, SqT.of upd_same, rfl, _, _, rfl, _, _, rfl, rfl, ?_⟩
  exact q p v d c' _ ⟨(D1.grw G2 C2).same w3, v1, v2, v3, (Fr.grw D1.cr G2).same w3⟩ wd (Shw.same sd w3) (by omega) (((Grw.of s1).trans G2).trans (Grw.of w3))
def u2 (C : Addr) : TS := fun Dn σ H => ∃ (a l p : Addr) (y c : Int) (ps : List (Str × Str)) (qs rs : List Str) (v : V) (d : PyData), σ = [some (.ref a), some (.ref l), some (.ref p), some v, none, none, none, none, none, none, none, none, none, none, none] ∧ Rg C H a l p y c ps qs rs ∧ clW ps qs rs 2 d ∧ Shw H v d ∧
  ∀ (H' : Hp), Same H H' → Dn.nx σ H'
theorem ri2 (R : RG P w K mg base C) (hr : Room k (A.deeper (envOfC "_law_right" (defScope sRi) s0.heap.objs.size f cdv))) (hk : 23 ≤ k) : PS (RX P w K mg base f cdv A outer s0 H0 E).nox (stRi 2) (u2 C) := by
  refine ps_imp (ps_if (pt_cmpR (op_neD hr.units) (pe_fnc R.names hr (by omega) (by rfl) pass0 (pa_cons (pv 2) (pa_cons (pv 3) pa_nil))) (pe_callTy call_tuple_of (by rfl) (Free.tuple R.B) (by decide +kernel) (pa_cons (pe_sortSet (by rfl) R.mS (by rfl) R.B.set (pe_fnc R.lnames hr (by omega) (by rfl) pass0 (pa_cons (pv 1) (pa_cons (pv 3) pa_nil)))) pa_nil)) (nomark _)) (pss_one (ps_ret pe_bl)) pss_nil) ?_
  rintro Dn σ H ⟨a, l, p, y, c, ps, qs, rs, v, d, rfl, ⟨D, v1, v2, v3, Fr⟩, wd, sh, q⟩
  have w12 := words12 D.gp
  have g1 := D.gp.l1
  have g2 := D.gp.l2
  have g3 := D.gp.l3
  have nn2 := wd.2.w
  have b2 : bC 2 = 437 := rfl
  have j := wd.1 11 (by decide)
  refine ⟨.ref p, rfl, v, rfl, ?_⟩
  (first | refine (⟨p, v1, v2, v3, ps, qs, rs, v, d, rfl, Fr, sh, wd.2.c, by omega, j, by omega, fun zs ys b H1 s1 ez py sy eb => ?_⟩) | (show tNil _ _ _; unfold tNil; refine (⟨p, v1, v2, v3, ps, qs, rs, v, d, rfl, Fr, sh, wd.2.c, by omega, j, by omega, fun zs ys b H1 s1 ez py sy eb => ?_⟩)) | ((try unfold tCons); (try unfold tNil); (try unfold tC); refine (⟨p, v1, v2, v3, ps, qs, rs, v, d, rfl, Fr, sh, wd.2.c, by omega, j, by omega, fun zs ys b H1 s1 ez py sy eb => ?_⟩)))
  refine ⟨.ref l, rfl, v, rfl, ?_⟩
  (first | refine (⟨l, ps, qs, rs, v, d, .form, [], rfl, D.pt.same s1, by omega, by omega, by omega, Shw.same sh s1, wd.2.c, by omega, j, fun L zs2 H2 nL s2 ez2 hL => ?_⟩) | (show tNil _ _ _; unfold tNil; refine (⟨l, ps, qs, rs, v, d, .form, [], rfl, D.pt.same s1, by omega, by omega, by omega, Shw.same sh s1, wd.2.c, by omega, j, fun L zs2 H2 nL s2 ez2 hL => ?_⟩)) | ((try unfold tCons); (try unfold tNil); (try unfold tC); refine (⟨l, ps, qs, rs, v, d, .form, [], rfl, D.pt.same s1, by omega, by omega, by omega, Shw.same sh s1, wd.2.c, by omega, j, fun L zs2 H2 nL s2 ez2 hL => ?_⟩)))
  have ezz : zs2 = zs := by
    have e := ez2.symm.trans ez
    have := congrArg (List.map txtD) e
    rw [txt_map, txt_map] at this
    exact this
  subst ezz
  have hzs : ∀ z ∈ zs2, z ∈ wordsOf ps qs rs := by
    obtain ⟨us, eu, hu⟩ := cw_strs (ws := wordsOf ps qs rs) (n := 12) (d := d)
    have e := eu.symm.trans ez
    have := congrArg (List.map txtD) e
    rw [txt_map, txt_map] at this
    subst this
    exact hu
  have lz : zs2.length ≤ 1000 := by
    have a := cw_len (ws := wordsOf ps qs rs) j
    rw [ez, List.length_map] at a
    omega
  have fo : (once zs2).length < 64 := by
    have := nodup_le (once_nodup' zs2) (l := wordsOf ps qs rs) fun z hz => hzs z (onceS_mem zs2 z hz)
    omega
  refine ⟨L, zs2, rfl, SqL.of hL, lz, fo, fun ys2 t p2 so2 nt => ?_⟩
  have w3 := same_upd (p := t) (o := .lst (ys2.map V.str)) nt
  refine ⟨t, _, rfl, .inl ⟨SqL.of upd_same, fun t2 nt2 => ?_⟩⟩
  have w4 := same_upd (p := t2) (o := .tup (ys2.map V.str)) nt2
  have ee : ys2 = ys := sortedS_one (p2.trans py.symm) (sortedS_pair so2) (sortedS_pair sy)
  subst ee
  have oks : okS ys2 := fun z hz => W16_okS z (words_W16 D.gp z (hzs z (onceS_mem zs2 z (p2.mem_iff.mp hz))))
  have sp := strs_shaped oks
  have wAll := s2.trans (w3.trans w4)
  refine ⟨.tuple (ys2.map PyData.str), .tuple (ys2.map PyData.str), .tup (SqT.of (wAll _ _ eb)) (ShwAll.dp (strs_lay oks) (shw_strs ys2)), .tup (SqT.of upd_same) (ShwAll.dp (strs_lay oks) (shw_strs ys2)), sp, sp, _, rfl, ?_⟩
  have er : PyData.eqv (.tuple (ys2.map PyData.str)) (.tuple (ys2.map PyData.str)) = true := by
    simp only [PyData.eqv]
    refine eqvAll_refl fun d hd => ?_
    obtain ⟨z, _, rfl⟩ := List.mem_map.mp hd
    exact eqv_str_refl z
  rw [er]
  exact iteF (q _ (s1.trans wAll))
theorem ri3 (R : RG P w K mg base C) (hr : Room k (A.deeper (envOfC "_law_right" (defScope sRi) s0.heap.objs.size f cdv))) (hk : 23 ≤ k) : PS (RX P w K mg base f cdv A outer s0 H0 E).nox (stRi 3) (u2 C) := by
  refine ps_imp (ps_if (pt_not (pt_val (pe_fnc R.fits hr (by omega) (by rfl) pass0 (pa_cons (pv 1) (pa_cons (pe_tup pa_nil) (pa_cons pe_str (pa_cons (pv 3) pa_nil))))))) (pss_one (ps_ret pe_bl)) pss_nil) ?_
  rintro Dn σ H ⟨a, l, p, y, c, ps, qs, rs, v, d, rfl, ⟨D, v1, v2, v3, Fr⟩, wd, sh, q⟩
  have j := wd.1 11 (by decide)
  refine ⟨.ref l, rfl, le_line (by simp), fun t nt => ⟨v, rfl, ?_⟩⟩
  have w1 := same_upd (p := t) (o := .tup []) nt
  (first | refine (⟨l, ps, qs, rs, [], .ref t, .form, v, d, rfl, (D.same w1).fic ⟨t, rfl, upd_same⟩ (by decide), fun _ => rfl, Shw.same sh w1, (cq_gd d wd.2.c).1, by have := wd.2.p; omega, fun H2 s2 => ?_⟩) | (show tNil _ _ _; unfold tNil; refine (⟨l, ps, qs, rs, [], .ref t, .form, v, d, rfl, (D.same w1).fic ⟨t, rfl, upd_same⟩ (by decide), fun _ => rfl, Shw.same sh w1, (cq_gd d wd.2.c).1, by have := wd.2.p; omega, fun H2 s2 => ?_⟩)) | ((try unfold tCons); (try unfold tNil); (try unfold tC); refine (⟨l, ps, qs, rs, [], .ref t, .form, v, d, rfl, (D.same w1).fic ⟨t, rfl, upd_same⟩ (by decide), fun _ => rfl, Shw.same sh w1, (cq_gd d wd.2.c).1, by have := wd.2.p; omega, fun H2 s2 => ?_⟩)))
  refine ⟨_, rfl, ?_⟩
  rw [j]
  exact iteF (q H2 (w1.trans s2))
end
end K03

set_option autoImplicit false
set_option maxRecDepth 100000
set_option maxHeartbeats 4000000
/-! the law: nine values judged -/
namespace K03
open PySem PySem.Spec PyProof.Rows L2 KX
/-- a value that the law asks of -/
structure AskW (r : PyData) : Prop where
  s : sq r = true
  p : PyData.depth r ≤ 12
  w : nn r ≤ 500
theorem AskW.len {r : PyData} (h : AskW r) : r.shown.length ≤ 1000000 := by
  have a := (sq_ok r h.s).len
  have b := h.w
  omega
section
variable {P : Program} {w : World} {K : PySem.W.Frag} {mg : Str → Option Value} {base : Heap} {C f : Addr} {cdv : Value} {A : Around} {outer : List Env} {s0 : Shared} {H0 : Hp} {E : XK} {k : Nat}
def u4 (C : Addr) : TS := fun Dn σ H => ∃ (a l p : Addr) (y c : Int) (ps : List (Str × Str)) (qs rs : List Str) (v : V) (d : PyData), σ = [some (.ref a), some (.ref l), some (.ref p), some v, none, none, none, none, none, none, none, none, none, none, none] ∧ Rg C H a l p y c ps qs rs ∧ c ≤ 300000 ∧ clW ps qs rs 2 d ∧ Shw H v d ∧
  ∀ (t4 t5 t6 t7 : Option V) (c' : Int) (H' : Hp), Rg C H' a l p y c' ps qs rs → c' ≤ c + 1000 → Grw a H H' → Dn.nx [some (.ref a), some (.ref l), some (.ref p), some v, t4, t5, t6, t7, none, none, none, none, none, none, none] H'
theorem ri4 (R : RG P w K mg base C) (hG : (A.deeper (envOfC "_law_right" (defScope sRi) s0.heap.objs.size f cdv)).guards = some []) (hr : Room k (A.deeper (envOfC "_law_right" (defScope sRi) s0.heap.objs.size f cdv))) (hk : 23 ≤ k) : PS (RX P w K mg base f cdv A outer s0 H0 E).nox (stRi 4) (u4 C) := by
  refine ps_imp (ps_for PassesOwn.never rfl (pi_range1 (by rfl) R.B.range (pa_cons pe_int pa_nil)) (pg_name (i := 4) scRi.nd rfl (Or.inl rfl))
    (C8.pss_cut (ps_set (i := 5) scRi.nd rfl (.inl rfl) (pe_ifExp (pt_cmpR op_gt (pv 4) pe_int (nomark _)) (pe_fnc R.bent hr (by omega) (by rfl) pass0 (pa_cons (pv 0) (pa_cons (pv 1) (pa_cons (pv 3) pa_nil)))) (pv 3))) <|
     pss_cons (ps_par (i := 6) (j := 7) rfl scRi.nd rfl rfl (by decide) rfl rfl (pa_cons (pe_callB (call_reprD hG hr.units) (by rfl) R.mRepr (by decide +kernel) (pa_cons (pv 5) pa_nil)) (pa_cons (pe_callB call_repr_bl (by rfl) R.mRepr (by decide +kernel) (pa_cons (pe_fnc R.fits hr (by omega) (by rfl) pass0 (pa_cons (pv 1) (pa_cons (pe_tup pa_nil) (pa_cons pe_str (pa_cons (pv 5) pa_nil))))) pa_nil)) pa_nil)) (by rfl)) <|
     pss_one (ps_if (PW.pt <| pw_or (pt_cmpR op_ne (pe_callB call_repr_bl (by rfl) R.mRepr (by decide +kernel) (pa_cons (pe_fnc R.isc hr (by omega) (by rfl) pass0 (pa_cons (pv 2) (pa_cons (pv 5) pa_nil))) pa_nil)) (pv 7) (nomark _)) <| pw_or (pt_cmpR op_ne (pe_callB call_repr_bl (by rfl) R.mRepr (by decide +kernel) (pa_cons (pe_fnc R.isc hr (by omega) (by rfl) pass0 (pa_cons (pv 2) (pa_cons (pv 5) pa_nil))) pa_nil)) (pv 7) (nomark _)) <|
       pw_or1 (pt_cmpR op_ne (pe_callB (call_reprD hG hr.units) (by rfl) R.mRepr (by decide +kernel) (pa_cons (pv 5) pa_nil)) (pv 6) (nomark _))) (pss_one (ps_ret pe_bl)) pss_nil))) ?_
  rintro Dn σ H ⟨a, l, p, y, c, ps, qs, rs, v, d, rfl, rg, hc, wd, sh, q⟩
  have b2 : bC 2 = 437 := rfl
  have k7 : kBe 7 = 80 := rfl
  have od := (cq_gd d wd.2.c).2.1
  have dp := wd.2.p
  have nd := wd.2.w
  refine ⟨9, rfl, by decide, by decide, ?_⟩
  refine for_range (fun m σ H' => ∃ (t4 t5 t6 t7 : Option V) (c' : Int), σ = [some (.ref a), some (.ref l), some (.ref p), some v, t4, t5, t6, t7, none, none, none, none, none, none, none] ∧ Rg C H' a l p y c' ps qs rs ∧ Shw H' v d ∧ c' ≤ c + 80 * (m : Int) ∧ Grw a H H')
    ⟨none, none, none, none, c, rfl, rg, sh, by omega, Grw.of (Same.refl _)⟩ (fun m σ H' hm hP => ?_) (fun σ H' hP => ?_)
  · obtain ⟨t4, t5, t6, t7, c', rfl, rg', sh', l', G'⟩ := hP
    have hm9 : m < 9 := hm
    refine ⟨fun σ' H2 => ∃ (t4 t6 t7 : Option V) (v2 : V) (r : PyData) (c2 : Int), σ' = [some (.ref a), some (.ref l), some (.ref p), some v, t4, some v2, t6, t7, none, none, none, none, none, none, none] ∧ AskW r ∧ Shw H2 v2 r ∧ Rg C H2 a l p y c2 ps qs rs ∧ Shw H2 v d ∧ c2 ≤ c + 80 * ((m + 1 : Nat) : Int) ∧ Grw a H H2, ?_, ?_⟩
    · refine ⟨_, rfl, _, _, rfl, rfl, _, rfl, ite2 (fun _ => ?_) (fun _ => ?_)⟩
      · refine ⟨.ref a, rfl, .ref l, rfl, v, rfl, ?_⟩
        (first | refine (⟨a, l, y, c', ps, qs, rs, v, d, rfl, rg'.dw, by omega, sh', wd.2.c, by omega, fun v2 r c2 H2 wr sr C2 l2 G2 => ?_⟩) | (show tNil _ _ _; unfold tNil; refine (⟨a, l, y, c', ps, qs, rs, v, d, rfl, rg'.dw, by omega, sh', wd.2.c, by omega, fun v2 r c2 H2 wr sr C2 l2 G2 => ?_⟩)) | ((try unfold tCons); (try unfold tNil); (try unfold tC); refine (⟨a, l, y, c', ps, qs, rs, v, d, rfl, rg'.dw, by omega, sh', wd.2.c, by omega, fun v2 r c2 H2 wr sr C2 l2 G2 => ?_⟩)))
        have rp := wr.p
        have rw' := wr.w
        exact ⟨_, _, _, v2, r, c2, rfl, ⟨wr.s, by omega, by omega⟩, sr, rg'.grw G2 C2, Shw.grw rg'.dw.cr G2 od sh', by omega, G'.trans G2⟩
      · exact ⟨v, rfl, _, _, _, v, d, c', rfl, ⟨cq_sq d wd.2.c, by omega, by omega⟩, sh', rg', sh', by omega, G'⟩
    · rintro σ' H2 ⟨t4, t6, t7, v2, r, c2, rfl, wr, sr, rg2, sh2, l2, G2⟩
      have sk := sq_ok r wr.s
      obtain ⟨D2, v1, v2', v3, Fr2⟩ := id rg2
      refine ⟨v2, rfl, v2, r, rfl, sr, sk.show_, by have := wr.p; omega, wr.len, .ref l, rfl, le_line (by simp), fun t nt => ⟨v2, rfl, ?_⟩⟩
      have w3 := same_upd (p := t) (o := .tup []) nt
      (first | refine (⟨l, ps, qs, rs, [], .ref t, .form, v2, r, rfl, (D2.same w3).fic ⟨t, rfl, upd_same⟩ (by decide), fun _ => rfl, Shw.same sr w3, sk.g, wr.p, fun H4 s4 => ?_⟩) | (show tNil _ _ _; unfold tNil; refine (⟨l, ps, qs, rs, [], .ref t, .form, v2, r, rfl, (D2.same w3).fic ⟨t, rfl, upd_same⟩ (by decide), fun _ => rfl, Shw.same sr w3, sk.g, wr.p, fun H4 s4 => ?_⟩)) | ((try unfold tCons); (try unfold tNil); (try unfold tC); refine (⟨l, ps, qs, rs, [], .ref t, .form, v2, r, rfl, (D2.same w3).fic ⟨t, rfl, upd_same⟩ (by decide), fun _ => rfl, Shw.same sr w3, sk.g, wr.p, fun H4 s4 => ?_⟩)))
      have w34 := w3.trans s4
      refine ⟨_, rfl, _, _, rfl, ?_⟩
      refine ⟨.ref p, rfl, v2, rfl, ?_⟩
      (first | refine (⟨p, v1, v2', v3, ps, qs, rs, v2, r, rfl, Fr2.same w34, Shw.same sr w34, sk.g, fun H5 s5 => ?_⟩) | (show tNil _ _ _; unfold tNil; refine (⟨p, v1, v2', v3, ps, qs, rs, v2, r, rfl, Fr2.same w34, Shw.same sr w34, sk.g, fun H5 s5 => ?_⟩)) | ((try unfold tCons); (try unfold tNil); (try unfold tC); refine (⟨p, v1, v2', v3, ps, qs, rs, v2, r, rfl, Fr2.same w34, Shw.same sr w34, sk.g, fun H5 s5 => ?_⟩)))
      refine ⟨_, rfl, _, rfl, rfl, _, rfl, iteF' (by rw [decide_eq_true rfl]; rfl) ?_⟩
      have w35 := w34.trans s5
      refine ⟨.ref p, rfl, v2, rfl, ?_⟩
      (first | refine (⟨p, v1, v2', v3, ps, qs, rs, v2, r, rfl, Fr2.same w35, Shw.same sr w35, sk.g, fun H6 s6 => ?_⟩) | (show tNil _ _ _; unfold tNil; refine (⟨p, v1, v2', v3, ps, qs, rs, v2, r, rfl, Fr2.same w35, Shw.same sr w35, sk.g, fun H6 s6 => ?_⟩)) | ((try unfold tCons); (try unfold tNil); (try unfold tC); refine (⟨p, v1, v2', v3, ps, qs, rs, v2, r, rfl, Fr2.same w35, Shw.same sr w35, sk.g, fun H6 s6 => ?_⟩)))
      have w36 := w35.trans s6
      refine ⟨_, rfl, _, rfl, rfl, _, rfl, iteF' (by rw [decide_eq_true rfl]; rfl) ?_⟩
      refine ⟨v2, rfl, v2, r, rfl, Shw.same sr w36, sk.show_, by have := wr.p; omega, wr.len, _, rfl, rfl, _, rfl, iteF' (by rw [decide_eq_true rfl]; rfl) ?_⟩
      exact ⟨_, _, _, _, c2, rfl, rg2.same w36, Shw.same sh2 w36, l2, G2.trans (Grw.of w36)⟩
  · obtain ⟨t4, t5, t6, t7, c', rfl, rg', sh', l', G'⟩ := hP
    have e9 : ((((9 : Int).toNat : Nat)) : Int) = 9 := rfl
    exact q t4 t5 t6 t7 c' H' rg' (by omega) G'
end
end K03

set_option autoImplicit false
set_option maxRecDepth 100000
set_option maxHeartbeats 4000000
/-! the law: a claim of depth 12 -/
namespace K03
open PySem PySem.Spec PyProof.Rows L2 KX
section
variable {ps : List (Str × Str)} {qs rs own : List Str}
theorem cd_same {n m : Nat} {k : Kd} {d : PyData} (h1 : jf ps qs rs n k own d = true) (h2 : jf ps qs rs m k own d = true) : cd n d = cd m d := by
  have a := jf_cd n k own d h1
  have b := jf_cd m k own d h2
  have h : ∀ i, (cd n d ≤ i ↔ cd m d ≤ i) := fun i => by
    have e := (a i).symm.trans (b i)
    exact decide_eq_decide.mp e
  have x := (h (cd n d)).mp (Nat.le_refl _)
  have y := (h (cd m d)).mpr (Nat.le_refl _)
  omega
/-- deeper by one -/
theorem deep_not {d : PyData} (h : jf ps qs rs 12 .form [] d = true) (lt : cd 12 d < 12) : jf ps qs rs 12 .form [] (.tuple [.str "not", d]) = true ∧ cd 12 d < cd 12 (.tuple [.str "not", d]) := by
  have h11 : jf ps qs rs 11 .form [] d = true := by rw [jf_cd 12 .form [] d h 11]; exact decide_eq_true (by omega)
  have e := cd_same h h11
  refine ⟨?_, ?_⟩
  · rw [jf_not1, h11]
    rfl
  · show cd 12 d < 1 + mx ([d].map (cd 11))
    show cd 12 d < 1 + max (cd 11 d) 0
    omega
theorem deep_and {z : Str} {d : PyData} {es : List PyData} (hz : z = "and" ∨ z = "or") (h : jf ps qs rs 12 .form [] d = true) (lt : cd 12 d < 12) (hd : d ∈ es) (hs : ∀ e ∈ es, e = d ∨ jf ps qs rs 1 .form [] e = true) : jf ps qs rs 12 .form [] (.tuple [.str z, .tuple es]) = true ∧ cd 12 d < cd 12 (.tuple [.str z, .tuple es]) := by
  have h11 : jf ps qs rs 11 .form [] d = true := by rw [jf_cd 12 .form [] d h 11]; exact decide_eq_true (by omega)
  have e := cd_same h h11
  refine ⟨jf_and hz fun x hx => ?_, ?_⟩
  · rcases hs x hx with rfl | h1
    · exact h11
    · have := jf_cd 1 .form [] x h1
      rw [this 1, decide_eq_true_eq] at h1
      rw [this 11]
      exact decide_eq_true (by omega)
  · have e2 : cd 12 (.tuple [.str z, .tuple es]) = 1 + mx (es.map (cd 11)) := by
      show 1 + mx ((subs _).map (cd 11)) = _
      rw [subs_ao hz]
    have := mx_le.mp (Nat.le_refl (mx (es.map (cd 11)))) _ (List.mem_map.mpr ⟨d, hd, rfl⟩)
    rw [e2]
    omega
end
theorem cq_word {z : Str} {d : PyData} (hz : z ∈ LC) (h : cq d = true) : cq (.tuple [.str z, d]) = true := by
  have e : cq (.str z) = true := decide_eq_true (LQ_c hz)
  show (decide (2 ≤ 4) && (!false && cqAll [.str z, d])) = true
  simp only [cqAll, e, h]
  rfl
theorem cq_two {a b : PyData} (h1 : cq a = true) (h2 : cq b = true) (h : headInt [a, b] = false) : cq (.tuple [a, b]) = true := by
  simp only [cq, cqAll, h1, h2, h, List.length_cons, List.length_nil]
  rfl
theorem cq_one {a : PyData} (h1 : cq a = true) (h : headInt [a] = false) : cq (.tuple [a]) = true := by
  simp only [cq, cqAll, h1, h, List.length_cons, List.length_nil]
  rfl
theorem head_jf {ps : List (Str × Str)} {qs rs own : List Str} {n : Nat} {k : Kd} {d : PyData} {es : List PyData} (h : jf ps qs rs n k own d = true) : headInt (d :: es) = false := by
  obtain ⟨z, ds, rfl⟩ := jf_tup h
  rfl
structure DeepW (ps : List (Str × Str)) (qs rs : List Str) (d : PyData) : Prop where
  c : cq d = true
  j : jf ps qs rs 12 .form [] d = true
section
variable {P : Program} {w : World} {K : PySem.W.Frag} {mg : Str → Option Value} {base : Heap} {C f : Addr} {cdv : Value} {A : Around} {outer : List Env} {s0 : Shared} {H0 : Hp} {E : XK} {k : Nat}
def u5 (C : Addr) : TS := fun Dn σ H => ∃ (a l p : Addr) (y c : Int) (ps : List (Str × Str)) (qs rs : List Str) (v : V) (t4 t5 t6 t7 : Option V), σ = [some (.ref a), some (.ref l), some (.ref p), some v, t4, t5, t6, t7, none, none, none, none, none, none, none] ∧ Rg C H a l p y c ps qs rs ∧ c ≤ 400000 ∧
  ∀ (vd vm : V) (dd dm : PyData) (c' : Int) (H' : Hp), DeepW ps qs rs dd → cq dm = true → jf ps qs rs 1 .form [] dm = true → Shw H' vd dd → Shw H' vm dm → Rg C H' a l p y c' ps qs rs → c' ≤ c + 200 → Grw a H H' → Dn.nx [some (.ref a), some (.ref l), some (.ref p), some v, t4, t5, t6, t7, some vd, some vm, none, none, none, none, none] H'
theorem ri5 (R : RG P w K mg base C) (hr : Room k (A.deeper (envOfC "_law_right" (defScope sRi) s0.heap.objs.size f cdv))) (hk : 23 ≤ k) : PS (RX P w K mg base f cdv A outer s0 H0 E).nox (stRi 5) (u5 C) := by
  have Cl1 : Fnc P w K mg base CX0 9 "_law_claim" ["_law_creel_here", "_law_parts_here", "_law_deep"] (spCl 1) := R.claim 1
  have Cl0 : Fnc P w K mg base CX0 8 "_law_claim" ["_law_creel_here", "_law_parts_here", "_law_deep"] (spCl 0) := R.claim 0
  refine ps_imp (ps_par (i := 8) (j := 9) rfl scRi.nd rfl rfl (by decide) rfl rfl (pa_cons (pe_fnc Cl1 hr (by omega) (by rfl) pass0 (pa_cons (pv 0) (pa_cons (pv 1) (pa_cons pe_int pa_nil)))) (pa_cons (pe_fnc Cl0 hr (by omega) (by rfl) pass0 (pa_cons (pv 0) (pa_cons (pv 1) (pa_cons pe_int pa_nil)))) pa_nil)) (by rfl)) ?_
  rintro Dn σ H ⟨a, l, p, y, c, ps, qs, rs, v, t4, t5, t6, t7, rfl, rg, hc, q⟩
  have k1 : kC 1 = 144 := rfl
  have k0 : kC 0 = 18 := rfl
  refine ⟨.ref a, rfl, .ref l, rfl, ?_⟩
  (first | refine (⟨a, l, y, c, ps, qs, rs, rfl, rg.dw, by omega, fun vd dd c1 H1 wd sd C1 l1 G1 => ?_⟩) | (show tNil _ _ _; unfold tNil; refine (⟨a, l, y, c, ps, qs, rs, rfl, rg.dw, by omega, fun vd dd c1 H1 wd sd C1 l1 G1 => ?_⟩)) | ((try unfold tCons); (try unfold tNil); (try unfold tC); refine (⟨a, l, y, c, ps, qs, rs, rfl, rg.dw, by omega, fun vd dd c1 H1 wd sd C1 l1 G1 => ?_⟩)))
  have rg1 := rg.grw G1 C1
  refine ⟨.ref a, rfl, .ref l, rfl, ?_⟩
  (first | refine (⟨a, l, y, c1, ps, qs, rs, rfl, rg1.dw, by omega, fun vm dm c2 H2 wm sm C2 l2 G2 => ?_⟩) | (show tNil _ _ _; unfold tNil; refine (⟨a, l, y, c1, ps, qs, rs, rfl, rg1.dw, by omega, fun vm dm c2 H2 wm sm C2 l2 G2 => ?_⟩)) | ((try unfold tCons); (try unfold tNil); (try unfold tC); refine (⟨a, l, y, c1, ps, qs, rs, rfl, rg1.dw, by omega, fun vm dm c2 H2 wm sm C2 l2 G2 => ?_⟩)))
  refine ⟨_, _, rfl, ?_⟩
  exact q vd vm dd dm c2 H2 ⟨wd.2.c, wd.1 11 (by decide)⟩ wm.2.c (wm.1 0 (Nat.le_refl _)) (Shw.grw C1 G2 (cq_gd dd wd.2.c).2.1 sd) sm (rg1.grw G2 C2) (by omega) (G1.trans G2)
def u6 (C : Addr) : TS := fun Dn σ H => ∃ (a l p : Addr) (y c : Int) (ps : List (Str × Str)) (qs rs : List Str) (v : V) (t4 t5 t6 t7 : Option V) (vd vm : V) (dd dm : PyData), σ = [some (.ref a), some (.ref l), some (.ref p), some v, t4, t5, t6, t7, some vd, some vm, none, none, none, none, none] ∧ Rg C H a l p y c ps qs rs ∧ c ≤ 500000 ∧
  DeepW ps qs rs dd ∧ cq dm = true ∧ jf ps qs rs 1 .form [] dm = true ∧ Shw H vd dd ∧ Shw H vm dm ∧
  ∀ (vd : V) (dd : PyData) (c' : Int) (H' : Hp), DeepW ps qs rs dd → cd 12 dd = 12 → Shw H' vd dd → Rg C H' a l p y c' ps qs rs → c' ≤ c + 12 → Grw a H H' → Dn.nx [some (.ref a), some (.ref l), some (.ref p), some v, t4, t5, t6, t7, some vd, some vm, none, none, none, none, none] H'
theorem ri6 (R : RG P w K mg base C) (hr : Room k (A.deeper (envOfC "_law_right" (defScope sRi) s0.heap.objs.size f cdv))) (hk : 23 ≤ k) : PS (RX P w K mg base f cdv A outer s0 H0 E).nox (stRi 6) (u6 C) := by
  refine ps_imp (ps_while PassesOwn.never (pt_cmpR op_lt (pe_fnc R.depth hr (by omega) (by rfl) pass0 (pa_cons (pv 8) pa_nil)) pe_int (nomark _))
    (pss_one (ps_set (i := 8) scRi.nd rfl (.inl rfl) (pe_fnc R.one hr (by omega) (by rfl) pass0 (pa_cons (pv 0) (pa_cons (pe_lst (pa_cons (pe_tup (pa_cons pe_str (pa_cons (pv 8) pa_nil))) (pa_cons (pe_tup (pa_cons pe_str (pa_cons (pe_tup (pa_cons (pv 9) (pa_cons (pv 8) pa_nil))) pa_nil))) (pa_cons (pe_tup (pa_cons pe_str (pa_cons (pe_tup (pa_cons (pv 8) pa_nil)) pa_nil))) (pa_cons (pe_tup (pa_cons pe_str (pa_cons (pe_tup (pa_cons (pv 8) (pa_cons (pv 9) pa_nil))) pa_nil))) pa_nil))))) pa_nil)))))) ?_
  rintro Dn σ H ⟨a, l, p, y, c, ps, qs, rs, v, t4, t5, t6, t7, vd, vm, dd, dm, rfl, rg, hc, wd, cm, jm, sd, sm, q⟩
  refine ⟨fun n σ' H' => ∃ (vd : V) (dd : PyData) (c' : Int), n = 12 - cd 12 dd ∧ σ' = [some (.ref a), some (.ref l), some (.ref p), some v, t4, t5, t6, t7, some vd, some vm, none, none, none, none, none] ∧ DeepW ps qs rs dd ∧ Shw H' vd dd ∧ Shw H' vm dm ∧ Rg C H' a l p y c' ps qs rs ∧ c' ≤ c + (cd 12 dd : Nat) ∧ Grw a H H', ⟨_, vd, dd, c, rfl, rfl, wd, sd, sm, rg, by omega, Grw.of (Same.refl _)⟩, ?_⟩
  rintro n σ' H1 ⟨vd, dd, c1, rfl, rfl, wd, sd, sm, rg1, l1, G1⟩
  have c12 : cd 12 dd ≤ 12 := by
    have := jf_cd 12 .form [] dd wd.j 12
    rw [wd.j] at this
    exact of_decide_eq_true this.symm
  refine ⟨vd, rfl, ?_⟩
  (first | refine (⟨vd, dd, .form, ps, qs, rs, [], rfl, sd, wd.c, wd.j, fun H2 s2 => ?_⟩) | (show tNil _ _ _; unfold tNil; refine (⟨vd, dd, .form, ps, qs, rs, [], rfl, sd, wd.c, wd.j, fun H2 s2 => ?_⟩)) | ((try unfold tCons); (try unfold tNil); (try unfold tC); refine (⟨vd, dd, .form, ps, qs, rs, [], rfl, sd, wd.c, wd.j, fun H2 s2 => ?_⟩)))
  refine ⟨_, _, rfl, rfl, _, rfl, ite2 (fun lt => ?_) (fun lt => ?_)⟩
  · have lt : cd 12 dd < 12 := by have := of_decide_eq_true lt; omega
    refine ⟨fun σ' H' => ∃ m', m' < 12 - cd 12 dd ∧ ∃ (vd : V) (dd : PyData) (c' : Int), m' = 12 - cd 12 dd ∧ σ' = [some (.ref a), some (.ref l), some (.ref p), some v, t4, t5, t6, t7, some vd, some vm, none, none, none, none, none] ∧ DeepW ps qs rs dd ∧ Shw H' vd dd ∧ Shw H' vm dm ∧ Rg C H' a l p y c' ps qs rs ∧ c' ≤ c + (cd 12 dd : Nat) ∧ Grw a H H', fun _ _ h => h, ?_⟩
    refine ⟨.ref a, rfl, vd, rfl, le_line (by simp), fun p1 n1 => ?_⟩
    refine ⟨vm, rfl, vd, rfl, le_line (by simp), fun p2 n2 => ⟨le_line (by simp), fun p3 n3 => ?_⟩⟩
    refine ⟨vd, rfl, le_line (by simp), fun p4 n4 => ⟨le_line (by simp), fun p5 n5 => ?_⟩⟩
    refine ⟨vd, rfl, vm, rfl, le_line (by simp), fun p6 n6 => ⟨le_line (by simp), fun p7 n7 => ⟨le_line (by simp), fun L nL => ?_⟩⟩⟩
    have w1 := same_upd (p := p1) (o := .tup [.str "not", vd]) n1
    have w2 := same_upd (p := p2) (o := .tup [vm, vd]) n2
    have w3 := same_upd (p := p3) (o := .tup [.str "and", .ref p2]) n3
    have w4 := same_upd (p := p4) (o := .tup [vd]) n4
    have w5 := same_upd (p := p5) (o := .tup [.str "or", .ref p4]) n5
    have w6 := same_upd (p := p6) (o := .tup [vd, vm]) n6
    have w7 := same_upd (p := p7) (o := .tup [.str "and", .ref p6]) n7
    have w8 := same_upd (p := L) (o := .lst [.ref p1, .ref p3, .ref p5, .ref p7]) nL
    have w78 := w7.trans w8
    have w68 := w6.trans w78
    have w58 := w5.trans w68
    have w48 := w4.trans w58
    have w38 := w3.trans w48
    have w28 := w2.trans w38
    have w18 := w1.trans w28
    have sd8 := Shw.same sd (s2.trans w18)
    have sm8 := Shw.same sm (s2.trans w18)
    have hm := head_jf (es := [dd]) jm
    have hd1 := head_jf (es := [dm]) wd.j
    have hd0 := head_jf (es := []) wd.j
    have cands : ∀ d ∈ [PyData.tuple [.str "not", dd], .tuple [.str "and", .tuple [dm, dd]], .tuple [.str "or", .tuple [dd]], .tuple [.str "and", .tuple [dd, dm]]], DeepW ps qs rs d ∧ cd 12 dd < cd 12 d := fun d h => by
      simp only [List.mem_cons, List.not_mem_nil, or_false] at h
      rcases h with rfl | rfl | rfl | rfl
      · obtain ⟨a1, a2⟩ := deep_not wd.j lt
        exact ⟨⟨cq_word (by decide) wd.c, a1⟩, a2⟩
      · obtain ⟨a1, a2⟩ := deep_and (z := "and") (es := [dm, dd]) (.inl rfl) wd.j lt (by simp) (fun e he => by
          simp only [List.mem_cons, List.not_mem_nil, or_false] at he
          rcases he with rfl | rfl
          · exact .inr jm
          · exact .inl rfl)
        exact ⟨⟨cq_word (by decide) (cq_two cm wd.c hm), a1⟩, a2⟩
      · obtain ⟨a1, a2⟩ := deep_and (z := "or") (es := [dd]) (.inr rfl) wd.j lt (by simp) (fun e he => by
          simp only [List.mem_cons, List.not_mem_nil, or_false] at he
          exact .inl he)
        exact ⟨⟨cq_word (by decide) (cq_one wd.c hd0), a1⟩, a2⟩
      · obtain ⟨a1, a2⟩ := deep_and (z := "and") (es := [dd, dm]) (.inl rfl) wd.j lt (by simp) (fun e he => by
          simp only [List.mem_cons, List.not_mem_nil, or_false] at he
          rcases he with rfl | rfl
          · exact .inl rfl
          · exact .inr jm)
        exact ⟨⟨cq_word (by decide) (cq_two wd.c cm hd1), a1⟩, a2⟩
    have shs : ShwAll (upd (upd (upd (upd (upd (upd (upd (upd H2 p1 (.tup [.str "not", vd])) p2 (.tup [vm, vd])) p3 (.tup [.str "and", .ref p2])) p4 (.tup [vd])) p5 (.tup [.str "or", .ref p4])) p6 (.tup [vd, vm])) p7 (.tup [.str "and", .ref p6])) L (.lst [.ref p1, .ref p3, .ref p5, .ref p7])) [.ref p1, .ref p3, .ref p5, .ref p7] [PyData.tuple [.str "not", dd], .tuple [.str "and", .tuple [dm, dd]], .tuple [.str "or", .tuple [dd]], .tuple [.str "and", .tuple [dd, dm]]] :=
      .cons (.tup (w28 _ _ upd_same) (.cons (.str _) (.cons sd8 .nil))) (.cons (.tup (w48 _ _ upd_same) (.cons (.str _) (.cons (.tup (w38 _ _ upd_same) (.cons sm8 (.cons sd8 .nil))) .nil))) (.cons (.tup (w68 _ _ upd_same) (.cons (.str _) (.cons (.tup (w58 _ _ upd_same) (.cons sd8 .nil)) .nil))) (.cons (.tup (w8 _ _ upd_same) (.cons (.str _) (.cons (.tup (w78 _ _ upd_same) (.cons sd8 (.cons sm8 .nil))) .nil))) .nil)))
    have rg8 := rg1.same (s2.trans w18)
    have La : L ≠ a := (rg1.same (s2.trans (w1.trans (w2.trans (w3.trans (w4.trans (w5.trans (w6.trans w7)))))))).dw.cr.ne nL
    have eL : (upd (upd (upd (upd (upd (upd (upd (upd H2 p1 (.tup [.str "not", vd])) p2 (.tup [vm, vd])) p3 (.tup [.str "and", .ref p2])) p4 (.tup [vd])) p5 (.tup [.str "or", .ref p4])) p6 (.tup [vd, vm])) p7 (.tup [.str "and", .ref p6])) L (.lst [.ref p1, .ref p3, .ref p5, .ref p7])) L = some (.lst [.ref p1, .ref p3, .ref p5, .ref p7]) := upd_same
    generalize upd (upd (upd (upd (upd (upd (upd (upd H2 p1 (.tup [.str "not", vd])) p2 (.tup [vm, vd])) p3 (.tup [.str "and", .ref p2])) p4 (.tup [vd])) p5 (.tup [.str "or", .ref p4])) p6 (.tup [vd, vm])) p7 (.tup [.str "and", .ref p6])) L (.lst [.ref p1, .ref p3, .ref p5, .ref p7]) = H8 at w18 sm8 shs rg8 eL ⊢
    (first | refine (use_one rg8.dw.cr (by omega) eL La shs (by simp) (by simp) (offAll_mem fun d hd => (cq_gd d (cands d hd).1.c).2.1) fun r d c9 H9 hd sr C9 l9 G9 => ?_) | (show tNil _ _ _; unfold tNil; refine (use_one rg8.dw.cr (by omega) eL La shs (by simp) (by simp) (offAll_mem fun d hd => (cq_gd d (cands d hd).1.c).2.1) fun r d c9 H9 hd sr C9 l9 G9 => ?_)) | ((try unfold tCons); (try unfold tNil); (try unfold tC); refine (use_one rg8.dw.cr (by omega) eL La shs (by simp) (by simp) (offAll_mem fun d hd => (cq_gd d (cands d hd).1.c).2.1) fun r d c9 H9 hd sr C9 l9 G9 => ?_)))
    obtain ⟨wd9, lt9⟩ := cands d hd
    have c9' : cd 12 d ≤ 12 := by
      have := jf_cd 12 .form [] d wd9.j 12
      rw [wd9.j] at this
      exact of_decide_eq_true this.symm
    exact ⟨12 - cd 12 d, by omega, r, d, c9, rfl, rfl, wd9, sr, Shw.grw rg8.dw.cr G9 (cq_gd dm cm).2.1 sm8, rg8.grw G9 C9, by omega, (G1.trans (Grw.of (s2.trans w18))).trans G9⟩
  · have ge : ¬ cd 12 dd < 12 := fun h => lt (decide_eq_true (by omega))
    exact q vd dd c1 H2 wd (by omega) (Shw.same sd s2) (rg1.same s2) (by omega) (G1.trans (Grw.of s2))
end
end K03

set_option autoImplicit false
set_option maxRecDepth 100000
set_option maxHeartbeats 4000000
/-! the law: a body and a guard of depth 11 -/
namespace K03
open PySem PySem.Spec PyProof.Rows L2 KX
def oneW : List Str := ["own"]
/-- of this depth, and no less -/
structure Just (ps : List (Str × Str)) (qs rs : List Str) (k : Kd) (m : Nat) (d : PyData) : Prop where
  c : cq d = true
  j : jf ps qs rs (m + 1) k oneW d = true
  n : jf ps qs rs m k oneW d = false
section
variable {ps : List (Str × Str)} {qs rs : List Str} {k : Kd} {m : Nat} {d : PyData}
theorem just_0 {z : Str} (h : z = "and" ∨ z = "or") : Just ps qs rs k 0 (.tuple [.str z, .tuple []]) := by
  refine ⟨?_, ?_, rfl⟩
  · rcases h with rfl | rfl <;> decide +kernel
  · rw [jf_ao h]
    rfl
theorem just_not (h : Just ps qs rs k m d) (hk : k ≠ .guard) : Just ps qs rs k (m + 1) (.tuple [.str "not", d]) := by
  refine ⟨cq_word (by decide) h.c, ?_, ?_⟩
  · rw [jf_not1, h.j, decide_eq_true hk]
    rfl
  · rw [jf_not1, h.n, Bool.and_false]
theorem just_and {z : Str} {es : List PyData} (hz : z = "and" ∨ z = "or") (h : Just ps qs rs k m d) (he : es = [d] ∨ es = [d, d]) : Just ps qs rs k (m + 1) (.tuple [.str z, .tuple es]) := by
  have hl : z ∈ LC := by rcases hz with rfl | rfl <;> decide
  have hd : ∀ es', headInt (d :: es') = false := fun es' => head_jf h.j
  refine ⟨?_, ?_, ?_⟩
  · rcases he with rfl | rfl
    · exact cq_word hl (cq_one h.c (hd _))
    · exact cq_word hl (cq_two h.c h.c (hd _))
  · refine jf_and hz fun x hx => ?_
    rcases he with rfl | rfl
    · simp only [List.mem_cons, List.not_mem_nil, or_false] at hx
      rw [hx]
      exact h.j
    · simp only [List.mem_cons, List.not_mem_nil, or_false, or_self] at hx
      rw [hx]
      exact h.j
  · rw [jf_ao hz]
    rcases he with rfl | rfl
    · show (jf ps qs rs m k oneW d && true) = false
      rw [h.n]
      rfl
    · show (jf ps qs rs m k oneW d && (jf ps qs rs m k oneW d && true)) = false
      rw [h.n]
      rfl
end
section
variable {P : Program} {w : World} {K : PySem.W.Frag} {mg : Str → Option Value} {base : Heap} {C f : Addr} {cdv : Value} {A : Around} {outer : List Env} {s0 : Shared} {H0 : Hp} {E : XK} {k : Nat}
def u7 : TS := fun Dn σ H => ∃ (t0 t1 t2 t3 t4 t5 t6 t7 t8 t9 : Option V), σ = [t0, t1, t2, t3, t4, t5, t6, t7, t8, t9, none, none, none, none, none] ∧
  ∀ (b : V) (H' : Hp), Same H H' → Shw H' b (.tuple [.str "or", .tuple []]) → Dn.nx [t0, t1, t2, t3, t4, t5, t6, t7, t8, t9, some b, none, none, none, none] H'
theorem ri7 : PS (RX P w K mg base f cdv A outer s0 H0 E).nox (stRi 7) u7 := by
  refine ps_imp (ps_set (i := 10) scRi.nd rfl (.inl rfl) (pe_tup (pa_cons pe_str (pa_cons (pe_tup pa_nil) pa_nil)))) ?_
  rintro Dn σ H ⟨t0, t1, t2, t3, t4, t5, t6, t7, t8, t9, rfl, q⟩
  refine ⟨le_line (by simp), fun p1 n1 => ⟨le_line (by simp), fun p2 n2 => ?_⟩⟩
  have w1 := same_upd (p := p1) (o := .tup []) n1
  have w2 := same_upd (p := p2) (o := .tup [.str "or", .ref p1]) n2
  exact q (.ref p2) _ (w1.trans w2) (.tup upd_same (.cons (.str _) (.cons (.tup (w2 _ _ upd_same) .nil) .nil)))
def u8 (C : Addr) : TS := fun Dn σ H => ∃ (a l p : Addr) (y c : Int) (ps : List (Str × Str)) (qs rs : List Str) (t3 t4 t5 t6 t7 t9 : Option V) (vd : V) (dd : PyData) (b : V), σ = [some (.ref a), some (.ref l), some (.ref p), t3, t4, t5, t6, t7, some vd, t9, some b, none, none, none, none] ∧ Rg C H a l p y c ps qs rs ∧ c ≤ 600000 ∧ cq dd = true ∧ Shw H vd dd ∧ Shw H b (.tuple [.str "or", .tuple []]) ∧
  ∀ (t4 : Option V) (b : V) (db : PyData) (c' : Int) (H' : Hp), Just ps qs rs .body 10 db → Shw H' b db → Shw H' vd dd → Rg C H' a l p y c' ps qs rs → c' ≤ c + 10 → Grw a H H' → Dn.nx [some (.ref a), some (.ref l), some (.ref p), t3, t4, t5, t6, t7, some vd, t9, some b, none, none, none, none] H'
theorem ri8 (R : RG P w K mg base C) (hr : Room k (A.deeper (envOfC "_law_right" (defScope sRi) s0.heap.objs.size f cdv))) (hk : 23 ≤ k) : PS (RX P w K mg base f cdv A outer s0 H0 E).nox (stRi 8) (u8 C) := by
  refine ps_imp (ps_for PassesOwn.never rfl (pi_range1 (by rfl) R.B.range (pa_cons pe_int pa_nil)) (pg_name (i := 4) scRi.nd rfl (Or.inl rfl))
    (pss_one (ps_set (i := 10) scRi.nd rfl (.inl rfl) (pe_fnc R.one hr (by omega) (by rfl) pass0 (pa_cons (pv 0) (pa_cons (pe_lst (pa_cons (pe_tup (pa_cons pe_str (pa_cons (pv 10) pa_nil))) (pa_cons (pe_tup (pa_cons pe_str (pa_cons (pe_tup (pa_cons (pv 10) (pa_cons (pv 10) pa_nil))) pa_nil))) pa_nil))) pa_nil)))))) ?_
  rintro Dn σ H ⟨a, l, p, y, c, ps, qs, rs, t3, t4, t5, t6, t7, t9, vd, dd, b, rfl, rg, hc, cd, sd, sb, q⟩
  have odd := (cq_gd dd cd).2.1
  refine ⟨10, rfl, by decide, by decide, ?_⟩
  refine for_range (fun m σ H' => ∃ (t4 : Option V) (b : V) (db : PyData) (c' : Int), σ = [some (.ref a), some (.ref l), some (.ref p), t3, t4, t5, t6, t7, some vd, t9, some b, none, none, none, none] ∧ Just ps qs rs .body m db ∧ Shw H' b db ∧ Shw H' vd dd ∧ Rg C H' a l p y c' ps qs rs ∧ c' ≤ c + (m : Int) ∧ Grw a H H')
    ⟨t4, b, _, c, rfl, just_0 (.inr rfl), sb, sd, rg, by omega, Grw.of (Same.refl _)⟩ (fun m σ H1 hm hP => ?_) (fun σ H1 hP => ?_)
  · obtain ⟨t4, b, db, c1, rfl, jb, sb1, sd1, rg1, l1, G1⟩ := hP
    have hm10 : m < 10 := hm
    refine ⟨.ref a, rfl, b, rfl, le_line (by simp), fun p1 n1 => ⟨b, rfl, b, rfl, le_line (by simp), fun p2 n2 => ⟨le_line (by simp), fun p3 n3 => ⟨le_line (by simp), fun L nL => ?_⟩⟩⟩⟩
    have w1 := same_upd (p := p1) (o := .tup [.str "not", b]) n1
    have w2 := same_upd (p := p2) (o := .tup [b, b]) n2
    have w3 := same_upd (p := p3) (o := .tup [.str "and", .ref p2]) n3
    have w4 := same_upd (p := L) (o := .lst [.ref p1, .ref p3]) nL
    have w34 := w3.trans w4
    have w24 := w2.trans w34
    have w14 := w1.trans w24
    have sb4 := Shw.same sb1 w14
    have cands : ∀ d ∈ [PyData.tuple [.str "not", db], .tuple [.str "and", .tuple [db, db]]], Just ps qs rs .body (m + 1) d := fun d h => by
      simp only [List.mem_cons, List.not_mem_nil, or_false] at h
      rcases h with rfl | rfl
      · exact just_not jb (by decide)
      · exact just_and (.inl rfl) jb (.inr rfl)
    have shs : ShwAll (upd (upd (upd (upd H1 p1 (.tup [.str "not", b])) p2 (.tup [b, b])) p3 (.tup [.str "and", .ref p2])) L (.lst [.ref p1, .ref p3])) [.ref p1, .ref p3] [PyData.tuple [.str "not", db], .tuple [.str "and", .tuple [db, db]]] :=
      .cons (.tup (w24 _ _ upd_same) (.cons (.str _) (.cons sb4 .nil))) (.cons (.tup (w4 _ _ upd_same) (.cons (.str _) (.cons (.tup (w34 _ _ upd_same) (.cons sb4 (.cons sb4 .nil))) .nil))) .nil)
    have rg4 := rg1.same w14
    have La : L ≠ a := (rg1.same (w1.trans (w2.trans w3))).dw.cr.ne nL
    (first | refine (use_one rg4.dw.cr (by omega) upd_same La shs (by simp) (by simp) (offAll_mem fun d hd => (cq_gd d (cands d hd).c).2.1) fun r d c9 H9 hd sr C9 l9 G9 => ?_) | (show tNil _ _ _; unfold tNil; refine (use_one rg4.dw.cr (by omega) upd_same La shs (by simp) (by simp) (offAll_mem fun d hd => (cq_gd d (cands d hd).c).2.1) fun r d c9 H9 hd sr C9 l9 G9 => ?_)) | ((try unfold tCons); (try unfold tNil); (try unfold tC); refine (use_one rg4.dw.cr (by omega) upd_same La shs (by simp) (by simp) (offAll_mem fun d hd => (cq_gd d (cands d hd).c).2.1) fun r d c9 H9 hd sr C9 l9 G9 => ?_)))
    exact ⟨_, r, d, c9, rfl, cands d hd, sr, Shw.grw rg4.dw.cr G9 odd (Shw.same sd1 w14), rg4.grw G9 C9, by omega, (G1.trans (Grw.of w14)).trans G9⟩
  · obtain ⟨t4, b, db, c1, rfl, jb, sb1, sd1, rg1, l1, G1⟩ := hP
    have e10 : ((((10 : Int).toNat : Nat)) : Int) = 10 := rfl
    exact q t4 b db c1 H1 jb sb1 sd1 rg1 (by omega) G1
def u9 : TS := fun Dn σ H => ∃ (t0 t1 t2 t3 t4 t5 t6 t7 t8 t9 t10 : Option V), σ = [t0, t1, t2, t3, t4, t5, t6, t7, t8, t9, t10, none, none, none, none] ∧
  ∀ (b : V) (H' : Hp), Same H H' → Shw H' b (.tuple [.str "and", .tuple []]) → Dn.nx [t0, t1, t2, t3, t4, t5, t6, t7, t8, t9, t10, some b, none, none, none] H'
theorem ri9 : PS (RX P w K mg base f cdv A outer s0 H0 E).nox (stRi 9) u9 := by
  refine ps_imp (ps_set (i := 11) scRi.nd rfl (.inl rfl) (pe_tup (pa_cons pe_str (pa_cons (pe_tup pa_nil) pa_nil)))) ?_
  rintro Dn σ H ⟨t0, t1, t2, t3, t4, t5, t6, t7, t8, t9, t10, rfl, q⟩
  refine ⟨le_line (by simp), fun p1 n1 => ⟨le_line (by simp), fun p2 n2 => ?_⟩⟩
  have w1 := same_upd (p := p1) (o := .tup []) n1
  have w2 := same_upd (p := p2) (o := .tup [.str "and", .ref p1]) n2
  exact q (.ref p2) _ (w1.trans w2) (.tup upd_same (.cons (.str _) (.cons (.tup (w2 _ _ upd_same) .nil) .nil)))
def u10 (C : Addr) : TS := fun Dn σ H => ∃ (a l p : Addr) (y c : Int) (ps : List (Str × Str)) (qs rs : List Str) (t3 t4 t5 t6 t7 t9 : Option V) (vd : V) (dd : PyData) (b : V) (db : PyData) (g : V), σ = [some (.ref a), some (.ref l), some (.ref p), t3, t4, t5, t6, t7, some vd, t9, some b, some g, none, none, none] ∧ Rg C H a l p y c ps qs rs ∧ c ≤ 700000 ∧ cq dd = true ∧ Shw H vd dd ∧ cq db = true ∧ Shw H b db ∧ Shw H g (.tuple [.str "and", .tuple []]) ∧
  ∀ (t4 : Option V) (g : V) (dg : PyData) (c' : Int) (H' : Hp), Just ps qs rs .guard 10 dg → Shw H' g dg → Shw H' b db → Shw H' vd dd → Rg C H' a l p y c' ps qs rs → c' ≤ c + 10 → Grw a H H' → Dn.nx [some (.ref a), some (.ref l), some (.ref p), t3, t4, t5, t6, t7, some vd, t9, some b, some g, none, none, none] H'
theorem ri10 (R : RG P w K mg base C) (hr : Room k (A.deeper (envOfC "_law_right" (defScope sRi) s0.heap.objs.size f cdv))) (hk : 23 ≤ k) : PS (RX P w K mg base f cdv A outer s0 H0 E).nox (stRi 10) (u10 C) := by
  refine ps_imp (ps_for PassesOwn.never rfl (pi_range1 (by rfl) R.B.range (pa_cons pe_int pa_nil)) (pg_name (i := 4) scRi.nd rfl (Or.inl rfl))
    (pss_one (ps_set (i := 11) scRi.nd rfl (.inl rfl) (pe_tup (pa_cons (pe_fnc R.one hr (by omega) (by rfl) pass0 (pa_cons (pv 0) (pa_cons (pe_lst (pa_cons pe_str (pa_cons pe_str pa_nil))) pa_nil))) (pa_cons (pe_tup (pa_cons (pv 11) pa_nil)) pa_nil)))))) ?_
  rintro Dn σ H ⟨a, l, p, y, c, ps, qs, rs, t3, t4, t5, t6, t7, t9, vd, dd, b, db, g, rfl, rg, hc, cd, sd, cb, sb, sg, q⟩
  have odd := (cq_gd dd cd).2.1
  have odb := (cq_gd db cb).2.1
  refine ⟨10, rfl, by decide, by decide, ?_⟩
  refine for_range (fun m σ H' => ∃ (t4 : Option V) (g : V) (dg : PyData) (c' : Int), σ = [some (.ref a), some (.ref l), some (.ref p), t3, t4, t5, t6, t7, some vd, t9, some b, some g, none, none, none] ∧ Just ps qs rs .guard m dg ∧ Shw H' g dg ∧ Shw H' b db ∧ Shw H' vd dd ∧ Rg C H' a l p y c' ps qs rs ∧ c' ≤ c + (m : Int) ∧ Grw a H H')
    ⟨t4, g, _, c, rfl, just_0 (.inl rfl), sg, sb, sd, rg, by omega, Grw.of (Same.refl _)⟩ (fun m σ H1 hm hP => ?_) (fun σ H1 hP => ?_)
  · obtain ⟨t4, g, dg, c1, rfl, jg, sg1, sb1, sd1, rg1, l1, G1⟩ := hP
    have hm10 : m < 10 := hm
    refine ⟨.ref a, rfl, le_line (by simp), fun L nL => ?_⟩
    have w1 := same_upd (p := L) (o := .lst ((["and", "or"] : List Str).map V.str)) nL
    have rg2 := rg1.same w1
    (first | refine (use_oneS (zs := ["and", "or"]) rg2.dw.cr (by omega) upd_same (rg1.dw.cr.ne nL) (by decide) (by decide) fun z c9 H9 hz C9 l9 G9 => ?_) | (show tNil _ _ _; unfold tNil; refine (use_oneS (zs := ["and", "or"]) rg2.dw.cr (by omega) upd_same (rg1.dw.cr.ne nL) (by decide) (by decide) fun z c9 H9 hz C9 l9 G9 => ?_)) | ((try unfold tCons); (try unfold tNil); (try unfold tC); refine (use_oneS (zs := ["and", "or"]) rg2.dw.cr (by omega) upd_same (rg1.dw.cr.ne nL) (by decide) (by decide) fun z c9 H9 hz C9 l9 G9 => ?_)))
    refine ⟨g, rfl, le_line (by simp), fun p2 n2 => ⟨le_line (by simp), fun p3 n3 => ?_⟩⟩
    have w2 := same_upd (p := p2) (o := .tup [g]) n2
    have w3 := same_upd (p := p3) (o := .tup [.str z, .ref p2]) n3
    have w23 := w2.trans w3
    have hz2 : z = "and" ∨ z = "or" := by
      simp only [List.mem_cons, List.not_mem_nil, or_false] at hz
      exact hz
    have sg9 := Shw.grw rg2.dw.cr G9 (cq_gd dg jg.c).2.1 (Shw.same sg1 w1)
    exact ⟨_, .ref p3, .tuple [.str z, .tuple [dg]], c9, rfl, just_and hz2 jg (.inl rfl), .tup upd_same (.cons (.str z) (.cons (.tup (w3 _ _ upd_same) (.cons (Shw.same sg9 w23) .nil)) .nil)),
      Shw.same (Shw.grw rg2.dw.cr G9 odb (Shw.same sb1 w1)) w23, Shw.same (Shw.grw rg2.dw.cr G9 odd (Shw.same sd1 w1)) w23, (rg2.grw G9 C9).same w23, by omega, ((G1.trans (Grw.of w1)).trans G9).trans (Grw.of w23)⟩
  · obtain ⟨t4, g, dg, c1, rfl, jg, sg1, sb1, sd1, rg1, l1, G1⟩ := hP
    have e10 : ((((10 : Int).toNat : Nat)) : Int) = 10 := rfl
    exact q t4 g dg c1 H1 jg sg1 sb1 sd1 rg1 (by omega) G1
end
end K03

set_option autoImplicit false
set_option maxRecDepth 100000
set_option maxHeartbeats 4000000
/-! the law: what is_claim tells of great claims; the main def
-/
namespace K03
open PySem PySem.Spec PyProof.Rows L2 KX
theorem cq_four {a b c d : PyData} (h1 : cq a = true) (h2 : cq b = true) (h3 : cq c = true) (h4 : cq d = true) (h : headInt [a, b, c, d] = false) : cq (.tuple [a, b, c, d]) = true := by
  simp only [cq, cqAll, h1, h2, h3, h4, h, List.length_cons, List.length_nil]
  rfl
def ownT : PyData := .tuple [.str "own"]
def andT : PyData := .tuple [.str "and", .tuple []]
def orT : PyData := .tuple [.str "or", .tuple []]
def wholeT (db : PyData) : PyData := .tuple [.str "all", ownT, andT, db]
def otherT (dg : PyData) : PyData := .tuple [.str "all", ownT, dg, orT]
def lastT (dg : PyData) : PyData := .tuple [.str "all", ownT, .tuple [.str "or", .tuple [dg]], orT]
section
variable {ps : List (Str × Str)} {qs rs : List Str} {db dg dd : PyData}
theorem own_ok (g : GoodP ps qs rs) : ownD ps qs rs ownT = true := by
  have e : ownT = .tuple (oneW.map PyData.str) := rfl
  rw [e, ownD_is (by decide) (fun z hz => OW6_nm z (by unfold oneW at hz; rw [List.mem_singleton] at hz; rw [hz]; decide))]
  have n : ("own" : Str) ∉ wordsOf ps qs rs := fun h => absurd (words_W16 g _ h) (by decide +kernel)
  show (!decide (oneW.length = 0) && (!decide ((onceS oneW).length < oneW.length) && (!decide (("own" : Str) ∈ wordsOf ps qs rs) && true))) = true
  rw [decide_eq_false n]
  decide +kernel
theorem whole_j (g : GoodP ps qs rs) (h : Just ps qs rs .body 10 db) : jf ps qs rs 12 .form [] (wholeT db) = true ∧ jf ps qs rs 11 .form [] (wholeT db) = false ∧ cq (wholeT db) = true := by
  refine ⟨?_, ?_, cq_four (by decide +kernel) (by decide +kernel) (by decide +kernel) h.c rfl⟩
  · show (decide (Kd.form = Kd.form) && (ownD ps qs rs ownT && (jf ps qs rs 11 .guard oneW andT && jf ps qs rs 11 .body oneW db))) = true
    rw [own_ok g, h.j, show jf ps qs rs 11 .guard oneW andT = true from by rw [andT, jf_ao (.inl rfl)]; rfl]
    rfl
  · show (decide (Kd.form = Kd.form) && (ownD ps qs rs ownT && (jf ps qs rs 10 .guard oneW andT && jf ps qs rs 10 .body oneW db))) = false
    rw [h.n, Bool.and_false, Bool.and_false, Bool.and_false]
theorem or_whole (g : GoodP ps qs rs) (h : Just ps qs rs .body 10 db) : jf ps qs rs 12 .form [] (.tuple [.str "or", .tuple [wholeT db]]) = false ∧ cq (.tuple [.str "or", .tuple [wholeT db]]) = true := by
  obtain ⟨_, b, c⟩ := whole_j g h
  refine ⟨?_, cq_word (by decide) (cq_one c rfl)⟩
  rw [jf_ao (.inr rfl)]
  show (jf ps qs rs 11 .form [] (wholeT db) && true) = false
  rw [b]
  rfl
theorem other_j (g : GoodP ps qs rs) (h : Just ps qs rs .guard 10 dg) : jf ps qs rs 12 .form [] (otherT dg) = true ∧ cq (otherT dg) = true := by
  refine ⟨?_, cq_four (by decide +kernel) (by decide +kernel) h.c (by decide +kernel) rfl⟩
  show (decide (Kd.form = Kd.form) && (ownD ps qs rs ownT && (jf ps qs rs 11 .guard oneW dg && jf ps qs rs 11 .body oneW orT))) = true
  rw [own_ok g, h.j, show jf ps qs rs 11 .body oneW orT = true from by rw [orT, jf_ao (.inr rfl)]; rfl]
  rfl
theorem last_j (h : Just ps qs rs .guard 10 dg) : jf ps qs rs 12 .form [] (lastT dg) = false ∧ cq (lastT dg) = true := by
  refine ⟨?_, cq_four (by decide +kernel) (by decide +kernel) (cq_word (by decide) (cq_one h.c (head_jf h.j))) (by decide +kernel) rfl⟩
  show (decide (Kd.form = Kd.form) && (ownD ps qs rs ownT && (jf ps qs rs 11 .guard oneW (.tuple [.str "or", .tuple [dg]]) && jf ps qs rs 11 .body oneW orT))) = false
  have e : jf ps qs rs 11 .guard oneW (.tuple [.str "or", .tuple [dg]]) = false := by
    rw [jf_ao (.inr rfl)]
    show (jf ps qs rs 10 .guard oneW dg && true) = false
    rw [h.n]
    rfl
  rw [e, Bool.false_and, Bool.and_false, Bool.and_false]
theorem not_deep (w : DeepW ps qs rs dd) (h : cd 12 dd = 12) : jf ps qs rs 12 .form [] (.tuple [.str "not", dd]) = false ∧ cq (.tuple [.str "not", dd]) = true := by
  refine ⟨?_, cq_word (by decide) w.c⟩
  rw [jf_not1, jf_cd 12 .form [] dd w.j 11, decide_eq_false (show ¬ cd 12 dd ≤ 11 by omega), Bool.and_false]
end
section
variable {P : Program} {w : World} {K : PySem.W.Frag} {mg : Str → Option Value} {base : Heap} {C f : Addr} {cdv : Value} {A : Around} {outer : List Env} {s0 : Shared} {H0 : Hp} {E : XK} {k : Nat}
def uT (C : Addr) : TS := fun Dn σ H => ∃ (a l p : Addr) (y c : Int) (ps : List (Str × Str)) (qs rs : List Str) (t3 t4 t5 t6 t7 t9 : Option V) (vd : V) (dd : PyData) (b : V) (db : PyData) (g : V) (dg : PyData), σ = [some (.ref a), some (.ref l), some (.ref p), t3, t4, t5, t6, t7, some vd, t9, some b, some g, none, none, none] ∧ Rg C H a l p y c ps qs rs ∧
  DeepW ps qs rs dd ∧ cd 12 dd = 12 ∧ Shw H vd dd ∧ Just ps qs rs .body 10 db ∧ Shw H b db ∧ Just ps qs rs .guard 10 dg ∧ Shw H g dg ∧ ∀ H', Same H H' → Dn.rt (.bl true) H'
theorem ri_tail (R : RG P w K mg base C) (hr : Room k (A.deeper (envOfC "_law_right" (defScope sRi) s0.heap.objs.size f cdv))) (hk : 23 ≤ k) : PSs (RX P w K mg base f cdv A outer s0 H0 E).nox ((defBody sRi).drop 11) (uT C) := by
  refine pss_imp (pss_cons (ps_par (i := 12) (j := 13) rfl scRi.nd rfl rfl (by decide) rfl rfl (pa_cons (pe_tup (pa_cons pe_str (pa_cons (pe_tup (pa_cons pe_str pa_nil)) (pa_cons (pe_tup (pa_cons pe_str (pa_cons (pe_tup pa_nil) pa_nil))) (pa_cons (pv 10) pa_nil))))) (pa_cons (pe_tup (pa_cons pe_str (pa_cons (pe_tup (pa_cons pe_str pa_nil)) (pa_cons (pv 11) (pa_cons (pe_tup (pa_cons pe_str (pa_cons (pe_tup pa_nil) pa_nil))) pa_nil))))) pa_nil)) (by rfl)) <|
    pss_cons (ps_setLc (i := 14) (own := [("_law_value", 5)]) (g := gName 5) (tt := tYes) (te := tCall (spIc C) [] E0 (tCons (tVar 2) (tCons (tVar 5) tNil))) rfl scRi.nd rfl rfl (sw_true rfl rfl rfl (by decide +kernel)) (pi_tup (pe_tup (pa_cons (pv 8) (pa_cons (pe_tup (pa_cons pe_str (pa_cons (pv 8) pa_nil))) (pa_cons (pv 12) (pa_cons (pe_tup (pa_cons pe_str (pa_cons (pe_tup (pa_cons (pv 12) pa_nil)) pa_nil))) (pa_cons (pv 13) pa_nil))))))) (blkOk_by (N := nRi) (sc := defScope sRi) (by decide +kernel))
        (fun _ _ _ _ _ => pg_name (i := 5) scRi.nd rfl (Or.inl rfl) (Or.inr rfl)) (fun _ _ _ _ _ => pts_nil) (fun _ _ _ _ _ => (pe_fnc R.isc hr (by omega) (by rfl) pass0 (pa_cons (pv 2) (pa_cons (pv 5) pa_nil))))) <|
    pss_cons (ps_if (pt_val (pe_fnc R.isc hr (by omega) (by rfl) pass0 (pa_cons (pv 2) (pa_cons (pe_tup (pa_cons pe_str (pa_cons (pe_tup (pa_cons pe_str pa_nil)) (pa_cons (pe_tup (pa_cons pe_str (pa_cons (pe_tup (pa_cons (pv 11) pa_nil)) pa_nil))) (pa_cons (pe_tup (pa_cons pe_str (pa_cons (pe_tup pa_nil) pa_nil))) pa_nil))))) pa_nil)))) (pss_one (ps_ret pe_bl)) pss_nil) <|
    pss_one (ps_ret (pe_cmpR (op_eqD hr.units) (pv 14) (pe_lst (pa_cons pe_bl (pa_cons pe_bl (pa_cons pe_bl (pa_cons pe_bl (pa_cons pe_bl pa_nil)))))) (nomark _)))) ?_
  rintro Dn σ H ⟨a, l, p, y, c, ps, qs, rs, t3, t4, t5, t6, t7, t9, vd, dd, b, db, g, dg, rfl, rg, wd, c12, sd, jb, sb, jg, sg, q⟩
  have gp := rg.dw.gp
  refine ⟨le_line (by simp), fun p1 n1 => ⟨le_line (by simp), fun p2 n2 => ⟨le_line (by simp), fun p3 n3 => ⟨b, rfl, le_line (by simp), fun p4 n4 => ?_⟩⟩⟩⟩
  have w1 := same_upd (p := p1) (o := .tup [.str "own"]) n1
  have w2 := same_upd (p := p2) (o := .tup []) n2
  have w3 := same_upd (p := p3) (o := .tup [.str "and", .ref p2]) n3
  have w4 := same_upd (p := p4) (o := .tup [.str "all", .ref p1, .ref p3, b]) n4
  have w34 := w3.trans w4
  have w24 := w2.trans w34
  have w14 := w1.trans w24
  have shW : Shw (upd (upd (upd (upd H p1 (.tup [.str "own"])) p2 (.tup [])) p3 (.tup [.str "and", .ref p2])) p4 (.tup [.str "all", .ref p1, .ref p3, b])) (.ref p4) (wholeT db) :=
    .tup upd_same (.cons (.str _) (.cons (.tup (w24 _ _ upd_same) (.cons (.str _) .nil)) (.cons (.tup (w4 _ _ upd_same) (.cons (.str _) (.cons (.tup (w34 _ _ upd_same) .nil) .nil))) (.cons (Shw.same sb w14) .nil))))
  generalize upd (upd (upd (upd H p1 (.tup [.str "own"])) p2 (.tup [])) p3 (.tup [.str "and", .ref p2])) p4 (.tup [.str "all", .ref p1, .ref p3, b]) = H1 at w14 shW ⊢
  refine ⟨le_line (by simp), fun p5 n5 => ⟨g, rfl, le_line (by simp), fun p6 n6 => ⟨le_line (by simp), fun p7 n7 => ⟨le_line (by simp), fun p8 n8 => ⟨_, _, rfl, ?_⟩⟩⟩⟩⟩
  have w5 := same_upd (p := p5) (o := .tup [.str "own"]) n5
  have w6 := same_upd (p := p6) (o := .tup []) n6
  have w7 := same_upd (p := p7) (o := .tup [.str "or", .ref p6]) n7
  have w8 := same_upd (p := p8) (o := .tup [.str "all", .ref p5, g, .ref p7]) n8
  have w78 := w7.trans w8
  have w68 := w6.trans w78
  have w58 := w5.trans w68
  have shO : Shw (upd (upd (upd (upd H1 p5 (.tup [.str "own"])) p6 (.tup [])) p7 (.tup [.str "or", .ref p6])) p8 (.tup [.str "all", .ref p5, g, .ref p7])) (.ref p8) (otherT dg) :=
    .tup upd_same (.cons (.str _) (.cons (.tup (w68 _ _ upd_same) (.cons (.str _) .nil)) (.cons (Shw.same sg (w14.trans w58)) (.cons (.tup (w8 _ _ upd_same) (.cons (.str _) (.cons (.tup (w78 _ _ upd_same) .nil) .nil))) .nil))))
  have shW2 := Shw.same shW w58
  have t2 := w14.trans w58
  generalize upd (upd (upd (upd H1 p5 (.tup [.str "own"])) p6 (.tup [])) p7 (.tup [.str "or", .ref p6])) p8 (.tup [.str "all", .ref p5, g, .ref p7]) = H2 at t2 shW2 shO ⊢
  have sd2 := Shw.same sd t2
  refine ⟨vd, rfl, vd, rfl, le_line (by simp), fun q1 m1 => ⟨.ref p4, rfl, .ref p4, rfl, le_line (by simp), fun q2 m2 => ⟨le_line (by simp), fun q3 m3 => ⟨.ref p8, rfl, le_line (by simp), fun q4 m4 => ?_⟩⟩⟩⟩
  have x1 := same_upd (p := q1) (o := .tup [.str "not", vd]) m1
  have x2 := same_upd (p := q2) (o := .tup [.ref p4]) m2
  have x3 := same_upd (p := q3) (o := .tup [.str "or", .ref q2]) m3
  have x4 := same_upd (p := q4) (o := .tup [vd, .ref q1, .ref p4, .ref q3, .ref p8]) m4
  have x34 := x3.trans x4
  have x24 := x2.trans x34
  have x14 := x1.trans x24
  have sh5 : ShwAll (upd (upd (upd (upd H2 q1 (.tup [.str "not", vd])) q2 (.tup [.ref p4])) q3 (.tup [.str "or", .ref q2])) q4 (.tup [vd, .ref q1, .ref p4, .ref q3, .ref p8])) [vd, .ref q1, .ref p4, .ref q3, .ref p8] [dd, .tuple [.str "not", dd], wholeT db, .tuple [.str "or", .tuple [wholeT db]], otherT dg] :=
    .cons (Shw.same sd2 x14) (.cons (.tup (x24 _ _ upd_same) (.cons (.str _) (.cons (Shw.same sd2 x14) .nil))) (.cons (Shw.same shW2 x14) (.cons (.tup (x4 _ _ upd_same) (.cons (.str _) (.cons (.tup (x34 _ _ upd_same) (.cons (Shw.same shW2 x14) .nil)) .nil))) (.cons (Shw.same shO x14) .nil))))
  have e4 : (upd (upd (upd (upd H2 q1 (.tup [.str "not", vd])) q2 (.tup [.ref p4])) q3 (.tup [.str "or", .ref q2])) q4 (.tup [vd, .ref q1, .ref p4, .ref q3, .ref p8])) q4 = some (.tup [vd, .ref q1, .ref p4, .ref q3, .ref p8]) := upd_same
  have t3' := t2.trans x14
  generalize upd (upd (upd (upd H2 q1 (.tup [.str "not", vd])) q2 (.tup [.ref p4])) q3 (.tup [.str "or", .ref q2])) q4 (.tup [vd, .ref q1, .ref p4, .ref q3, .ref p8]) = H3 at t3' sh5 e4 ⊢
  have rg3 := rg.same t3'
  obtain ⟨D3, v1, v2, v3, Fr3⟩ := id rg3
  have hw := whole_j gp jb
  have how := or_whole gp jb
  have hot := other_j gp jg
  have hnd := not_deep wd c12
  have hla := last_j jg
  have allc : ∀ d ∈ [dd, PyData.tuple [.str "not", dd], wholeT db, .tuple [.str "or", .tuple [wholeT db]], otherT dg], cq d = true := fun d h => by
    simp only [List.mem_cons, List.not_mem_nil, or_false] at h
    rcases h with rfl | rfl | rfl | rfl | rfl
    · exact wd.c
    · exact hnd.2
    · exact hw.2.2
    · exact how.2
    · exact hot.2
  refine ⟨q4, rfl, ⟨_, SqT.of e4⟩, fun Dd nD => ?_⟩
  refine lc_tupD (K := K) (fun d => .bl (jf ps qs rs 12 .form [] d)) e4 nD (by show 5 ≤ 100000; decide) sh5 (fun x d H' Q' hx hd sx s1 kk => ⟨rfl, .ref p, rfl, x, rfl, p, v1, v2, v3, ps, qs, rs, x, d, rfl, Fr3.same s1, sx, (cq_gd d (allc d hd)).1, fun H4 s4 => kk H4 s4⟩) (fun H4 s4 d4 => ?_)
  have d4 : H4 Dd = some (.lst [.bl true, .bl false, .bl true, .bl false, .bl true]) := by
    rw [d4]
    simp only [List.map_cons, List.map_nil, wd.j, hnd.1, hw.1, how.1, hot.1]
  have sg4 := Shw.same sg (t3'.trans s4)
  refine ⟨.ref p, rfl, le_line (by simp), fun r1 k1 => ⟨g, rfl, le_line (by simp), fun r2 k2 => ⟨le_line (by simp), fun r3 k3 => ⟨le_line (by simp), fun r4 k4 => ⟨le_line (by simp), fun r5 k5 => ⟨le_line (by simp), fun r6 k6 => ?_⟩⟩⟩⟩⟩⟩
  have z1 := same_upd (p := r1) (o := .tup [.str "own"]) k1
  have z2 := same_upd (p := r2) (o := .tup [g]) k2
  have z3 := same_upd (p := r3) (o := .tup [.str "or", .ref r2]) k3
  have z4 := same_upd (p := r4) (o := .tup []) k4
  have z5 := same_upd (p := r5) (o := .tup [.str "or", .ref r4]) k5
  have z6 := same_upd (p := r6) (o := .tup [.str "all", .ref r1, .ref r3, .ref r5]) k6
  have z56 := z5.trans z6
  have z46 := z4.trans z56
  have z36 := z3.trans z46
  have z26 := z2.trans z36
  have z16 := z1.trans z26
  have shL : Shw (upd (upd (upd (upd (upd (upd H4 r1 (.tup [.str "own"])) r2 (.tup [g])) r3 (.tup [.str "or", .ref r2])) r4 (.tup [])) r5 (.tup [.str "or", .ref r4])) r6 (.tup [.str "all", .ref r1, .ref r3, .ref r5])) (.ref r6) (lastT dg) :=
    .tup upd_same (.cons (.str _) (.cons (.tup (z26 _ _ upd_same) (.cons (.str _) .nil)) (.cons (.tup (z46 _ _ upd_same) (.cons (.str _) (.cons (.tup (z36 _ _ upd_same) (.cons (Shw.same sg4 z16) .nil)) .nil))) (.cons (.tup (z6 _ _ upd_same) (.cons (.str _) (.cons (.tup (z56 _ _ upd_same) .nil) .nil))) .nil))))
  have t5' := s4.trans z16
  generalize upd (upd (upd (upd (upd (upd H4 r1 (.tup [.str "own"])) r2 (.tup [g])) r3 (.tup [.str "or", .ref r2])) r4 (.tup [])) r5 (.tup [.str "or", .ref r4])) r6 (.tup [.str "all", .ref r1, .ref r3, .ref r5]) = H5 at z16 t5' shL ⊢
  (first | refine (⟨p, v1, v2, v3, ps, qs, rs, .ref r6, lastT dg, rfl, Fr3.same t5', shL, (cq_gd _ hla.2).1, fun H6 s6 => ?_⟩) | (show tNil _ _ _; unfold tNil; refine (⟨p, v1, v2, v3, ps, qs, rs, .ref r6, lastT dg, rfl, Fr3.same t5', shL, (cq_gd _ hla.2).1, fun H6 s6 => ?_⟩)) | ((try unfold tCons); (try unfold tNil); (try unfold tC); refine (⟨p, v1, v2, v3, ps, qs, rs, .ref r6, lastT dg, rfl, Fr3.same t5', shL, (cq_gd _ hla.2).1, fun H6 s6 => ?_⟩)))
  refine ⟨_, rfl, ?_⟩
  rw [hla.1]
  refine iteF ⟨.ref Dd, rfl, le_line (by simp), fun N nN => ?_⟩
  have z7 := same_upd (p := N) (o := .lst [.bl true, .bl false, .bl true, .bl false, .bl true]) nN
  have d7 := z7 _ _ (s6 _ _ (z16 _ _ d4))
  have zz : SeqAt.shaped (.list [.bool true, .bool false, .bool true, .bool false, .bool true]) = true := by decide +kernel
  have dp : ∀ {l : Addr}, (upd H6 N (.lst [.bl true, .bl false, .bl true, .bl false, .bl true])) l = some (.lst [.bl true, .bl false, .bl true, .bl false, .bl true]) → Dp K (upd H6 N (.lst [.bl true, .bl false, .bl true, .bl false, .bl true])) (.ref l) (.list [.bool true, .bool false, .bool true, .bool false, .bool true]) := fun e => .lst (SqL.of e) (.cons (.bl _) (.cons (.bl _) (.cons (.bl _) (.cons (.bl _) (.cons (.bl _) .nil)))))
  refine ⟨_, _, dp d7, dp upd_same, zz, zz, ?_⟩
  have ev : PyData.eqv (.list [.bool true, .bool false, .bool true, .bool false, .bool true]) (.list [.bool true, .bool false, .bool true, .bool false, .bool true]) = true := by decide +kernel
  rw [ev]
  exact q _ ((t3'.trans t5').trans (s6.trans z7))
def spRi : Sp := fun vs H Q _ => ∃ (a : Addr) (y c : Int), vs = [.ref a] ∧ CrAt H a y c ∧ c ≤ 100000 ∧ ∀ (c' : Int) (H' : Hp), CrAt H' a y c' → Grw a H H' → Q (.bl true) H'
theorem ok_ri {fd : FuncData} (F : Fun K "_law_right" "_law_right" sRi f fd) (R : RG P w K mg base C) : RunG P w K mg base 24 f fd ["_law_creel_here"] spRi := by
  refine Fun.okG F scRi (fun cdv A outer s H vs Q E hG hr h => ?_)
  refine ⟨_, (pss_cons (ri0 R hr (by omega)) (pss_cons (ri1 R hr (by omega)) (pss_cons (ri2 R hr (by omega)) (pss_cons (ri3 R hr (by omega)) (pss_cons (ri4 R hG hr (by omega)) (pss_cons (ri5 R hr (by omega)) (pss_cons (ri6 R hr (by omega)) (pss_cons ri7 (pss_cons (ri8 R hr (by omega)) (pss_cons ri9 (pss_cons (ri10 R hr (by omega)) (ri_tail R hr (by omega)))))))))))) : PSs (RX P w K mg base f cdv A outer s H E).nox (defBody sRi) _), ?_⟩
  obtain ⟨a, y, c, rfl, C0, hc, q⟩ := h
  refine ⟨a, y, c, rfl, C0, hc, fun l ps qs rs c1 H1 D1 l1 G1 => ?_⟩
  refine ⟨a, l, y, c1, ps, qs, rs, rfl, D1, by omega, fun p v d c2 H2 rg2 wd sd l2 G2 => ?_⟩
  refine ⟨a, l, p, y, c2, ps, qs, rs, v, d, rfl, rg2, wd, sd, fun H3 s3 => ?_⟩
  refine ⟨a, l, p, y, c2, ps, qs, rs, v, d, rfl, rg2.same s3, wd, Shw.same sd s3, fun H4 s4 => ?_⟩
  have s34 := s3.trans s4
  refine ⟨a, l, p, y, c2, ps, qs, rs, v, d, rfl, rg2.same s34, by omega, wd, Shw.same sd s34, fun t4 t5 t6 t7 c5 H5 rg5 l5 G5 => ?_⟩
  refine ⟨a, l, p, y, c5, ps, qs, rs, v, t4, t5, t6, t7, rfl, rg5, by omega, fun vd vm dd dm c6 H6 wd6 cm jm sd6 sm6 rg6 l6 G6 => ?_⟩
  refine ⟨a, l, p, y, c6, ps, qs, rs, v, t4, t5, t6, t7, vd, vm, dd, dm, rfl, rg6, by omega, wd6, cm, jm, sd6, sm6, fun vd dd c7 H7 wd7 c12 sd7 rg7 l7 G7 => ?_⟩
  refine ⟨_, _, _, _, _, _, _, _, _, _, rfl, fun b H8 s8 sb => ?_⟩
  refine ⟨a, l, p, y, c7, ps, qs, rs, _, _, _, _, _, _, vd, dd, b, rfl, rg7.same s8, by omega, wd7.c, Shw.same sd7 s8, sb, fun t4 b db c9 H9 jb sb9 sd9 rg9 l9 G9 => ?_⟩
  refine ⟨_, _, _, _, _, _, _, _, _, _, _, rfl, fun g H10 s10 sg => ?_⟩
  refine ⟨a, l, p, y, c9, ps, qs, rs, _, _, _, _, _, _, vd, dd, b, db, g, rfl, rg9.same s10, by omega, wd7.c, Shw.same sd9 s10, jb.c, Shw.same sb9 s10, sg, fun t4 g dg c11 H11 jg sg11 sb11 sd11 rg11 l11 G11 => ?_⟩
  refine ⟨a, l, p, y, c11, ps, qs, rs, _, _, _, _, _, _, vd, dd, b, db, g, dg, rfl, rg11, wd7, c12, sd11, jb, sb11, jg, sg11, fun H12 s12 => ?_⟩
  exact q c11 H12 (rg11.dw.cr.same s12) (((((((((G1.trans G2).trans (Grw.of s34)).trans G5).trans G6).trans G7).trans (Grw.of s8)).trans G9).trans (Grw.of s10)).trans (G11.trans (Grw.of s12)))
end
end K03

set_option autoImplicit false
set_option maxRecDepth 100000
set_option maxHeartbeats 4000000
/-! the law itself -/
namespace K03
open PySem PySem.Spec PyProof.Rows L2 KX
abbrev sLaw : Stmt := topS 71
abbrev nLaw : List Str := ["_law_script", "_law_at"]
theorem scLaw : FnScope nLaw ["_law_script"] (defScope sLaw) := ⟨rfl, rfl, rfl, by decide +kernel, rfl, by decide +kernel, by decide +kernel⟩
/-- what the law calls -/
structure LG (P : Program) (w : World) (K : PySem.W.Frag) (mg : Str → Option Value) (base : Heap) : Prop where
  B : Free mg
  mMax : mg "max" = none
  mMin : mg "min" = none
  creel : Fnc P w K mg base CX0 1 "_law_creel" ["_law_script", "_law_at"] (spCreel K)
  right : FncG P w K mg base 24 "_law_right" ["_law_creel_here"] spRi
abbrev LWX (P : Program) (w : World) (K : PySem.W.Frag) (mg : Str → Option Value) (base : Heap) (f : Addr) (cdv : Value) (A : Around) (outer : List Env) (s0 : Shared) (H0 : Hp) (E : XK) : Cx := cxOf CX0 P w K mg base nLaw "law" (defScope sLaw) f cdv A outer s0 H0 E
section
variable {P : Program} {w : World} {K : PySem.W.Frag} {mg : Str → Option Value} {base : Heap} {C f : Addr} {cdv : Value} {A : Around} {outer : List Env} {s0 : Shared} {H0 : Hp} {E : XK} {k : Nat}
def ScP (K : PySem.W.Frag) (a : Addr) (xs : List V) (p : Addr) (H : Hp) : Prop := SqL K (fun _ => none) a xs ∨ (a ≠ p ∧ Rd H a (.lst xs))
theorem sc_new {K : PySem.W.Frag} {a p : Addr} {xs : List V} {H : Hp} {o : HO} (s : SqL K H a xs) (n : H p = none) : ScP K a xs p (upd H p o) := by
  rcases s with h | h
  · by_cases e : a = p
    · subst e
      rcases h with h | ⟨x, h⟩ <;> (rw [n] at h; cases h)
    · refine .inr ⟨e, ?_⟩
      rcases h with h | ⟨x, h⟩
      · exact .inl (by rw [upd_ne e]; exact h)
      · exact .inr ⟨x, by rw [upd_ne e]; exact h⟩
  · exact .inl (.inr h)
theorem sc_sql {K : PySem.W.Frag} {a p : Addr} {xs : List V} {H : Hp} (s : ScP K a xs p H) : SqL K H a xs := by
  rcases s with h | ⟨_, h⟩
  · rcases h with h | h
    · rcases h with h | ⟨x, h⟩ <;> cases h
    · exact .inr h
  · exact .inl h
theorem sc_keep {K : PySem.W.Frag} {a p : Addr} {xs : List V} {H H' : Hp} (s : ScP K a xs p H) (g : Grw p H H') : ScP K a xs p H' := by
  rcases s with h | ⟨n, h⟩
  · exact .inl h
  · refine .inr ⟨n, ?_⟩
    rcases h with h | ⟨x, h⟩
    · exact .inl (g _ _ n h)
    · exact .inr ⟨x, g _ _ n h⟩
def spLaw (K : PySem.W.Frag) : Sp := fun vs H Q _ => ∃ (a : Addr) (ns : List Int), vs = [.ref a] ∧ SqL K H a (ns.map V.int) ∧ ns.length ≤ 63 ∧ ∀ H', Q (.bl true) H'
theorem ok_law {fd : FuncData} (F : Fun K "law" "law" sLaw f fd) (R : LG P w K mg base) : RunG P w K mg base 25 f fd ["_law_script"] (spLaw K) := by
  refine Fun.okG F scLaw (fun cdv A outer s H vs Q E hG hr h => ?_)
  refine ⟨_, (pss_cons (ps_for PassesOwn.never rfl (pi_range1 (by rfl) R.B.range (pa_cons (pe_callB (call_max2 rfl) (by rfl) R.mMax (by decide +kernel) (pa_cons pe_int (pa_cons (pe_callB (call_min2 rfl) (by rfl) R.mMin (by decide +kernel) (pa_cons pe_int (pa_cons (pe_callB call_len_seq (by rfl) R.B.len PySem.boot_len (pa_cons (pv 0) pa_nil)) pa_nil))) pa_nil))) pa_nil))
        (pg_name (i := 1) scLaw.nd rfl (Or.inl rfl))
        (pss_one (ps_if (pt_not (pt_val (pe_fncG R.right hG hr (by omega) (by rfl) (pa_cons (pe_fnc R.creel hr (by omega) (by rfl) pass0 (pa_cons (pv 0) (pa_cons (pv 1) pa_nil))) pa_nil)))) (pss_one (ps_ret pe_bl)) pss_nil)))
      (pss_one (ps_ret pe_bl)) : PSs (LWX P w K mg base f cdv A outer s H E).nox (defBody sLaw) _), ?_⟩
  obtain ⟨a, ns, rfl, hS, h63, q⟩ := h
  have n1 : ∀ m : Nat, (if (if (m : Int) < 3 then (m : Int) else 3) > 1 then (if (m : Int) < 3 then (m : Int) else 3) else 1) ≤ 3 ∧ 0 ≤ (if (if (m : Int) < 3 then (m : Int) else 3) > 1 then (if (m : Int) < 3 then (m : Int) else 3) else 1) := fun m => by
    split <;> split <;> omega
  obtain ⟨j1, j0⟩ := n1 (ns.map V.int).length
  refine ⟨.ref a, rfl, a, ns.map V.int, rfl, .inl hS, 3, _, rfl, 1, _, rfl, _, rfl, by omega, by omega, ?_⟩
  generalize (if (if (((ns.map V.int).length : Nat) : Int) < 3 then (((ns.map V.int).length : Nat) : Int) else 3) > 1 then (if (((ns.map V.int).length : Nat) : Int) < 3 then (((ns.map V.int).length : Nat) : Int) else 3) else 1) = j at j0 j1 ⊢
  refine for_range (fun _ σ' H' => (∃ r1, σ' = [some (.ref a), r1]) ∧ SqL K H' a (ns.map V.int)) ⟨⟨none, rfl⟩, hS⟩ (fun i σ' H1 hi hP => ?_) (fun σ' H1 hP => ?_)
  · obtain ⟨⟨r1, rfl⟩, S1⟩ := hP
    refine ⟨.ref a, rfl, _, rfl, a, ns, 0 + (i : Int), rfl, S1, h63, by omega, by omega, fun p x y C np => ?_⟩
    refine ⟨rfl, p, y, 0, rfl, ⟨x, upd_same, C⟩, by omega, fun c' H' C' g' => ⟨_, rfl, ?_⟩⟩
    exact iteF' rfl ⟨⟨_, rfl⟩, sc_sql (sc_keep (sc_new S1 np) g')⟩
  · obtain ⟨⟨r1, rfl⟩, S1⟩ := hP
    exact q H1
end
end K03

set_option autoImplicit false
set_option maxRecDepth 100000
set_option maxHeartbeats 4000000
namespace K03
open PySem PySem.Spec PyProof.Rows L2 KX
open Classical in
/-- what is tracked at the law's call: the script, unless it is written at the top -/
noncomputable def entryH (K : PySem.W.Frag) (a : Addr) (u : HO) : Hp := fun b => if b = a ∧ K.lookup a = none then some u else none
section
variable {K : PySem.W.Frag} {a b : Addr} {u : HO}
theorem entry_some {z : HO} (e : entryH K a u b = some z) : b = a ∧ K.lookup a = none ∧ z = u := by
  unfold entryH at e
  by_cases h2 : b = a ∧ K.lookup a = none
  · rw [if_pos h2] at e
    exact ⟨h2.1, h2.2, (Option.some.inj e).symm⟩
  · rw [if_neg h2] at e
    cases e
end
section
variable {P : Program} {w : World} {K : PySem.W.Frag} {mg mb : Str → Option Value} {k : Nat} {fa a : Addr} {fd : FuncData} {x : Str} {sp : Sp} {s₁ : Shared} {vs : List Value} {ns : List Int}
theorem end_of (kin : K.In s₁.heap) (glob : s₁.heap.Ns mainGlobals mg) (bltn : s₁.heap.Ns builtinsNs mb) (same : ∀ y : Str, y ≠ "__name__" → mb y = bootBuiltins y) (lim : s₁.heap.NoLimit) (nog : s₁.gens = #[])
    (obj : s₁.heap.get? a = some { cls := .type "list", data := .seq vs.toArray }) (nums : IntsAre vs ns) (few : ns.length ≤ sizeLine) (room : Room k callerA)
    (run : ∀ base : Heap, K.In base → base.Ns mainGlobals mg → RunG P w K mg base k fa fd [x] sp) (binds : ∀ (s : Shared) (u : Value), BindsTo s fd ⟨[u], []⟩ [(x, u)])
    (want : ∀ H : Hp, SqL K H a (ns.map V.int) → sp [.ref a] H (fun v _ => v = .bl true) E0) :
    codeAny (model P w) callerA (.call (.ref fa) ⟨[.ref a], []⟩) (fun r s' => r = .ok (.ret (.bool true)) ∧ OldK s₁.heap s'.heap ∧ s'.os = s₁.os ∧ AllBare s'.gens) s₁ := by
  let lo : Obj := { cls := .type "list", data := .seq vs.toArray }
  let G : Hp := entryH K a (.frz lo (.lst (ns.map V.int)))
  have rel := vals_ints nums
  have ok : HOk P w G s₁.heap := fun b z e => by
    obtain ⟨rfl, _, rfl⟩ := entry_some e
    exact ⟨obj, by rw [List.length_map]; exact few, vs, _, rel, obj⟩
  have sees : SqL K G a (ns.map V.int) := by
    cases e : K.lookup a with
    | none => exact .inl (.inr ⟨lo, by show entryH K a _ a = _; unfold entryH; rw [if_pos ⟨rfl, e⟩]⟩)
    | some o =>
      have y := kin a o e
      rw [obj] at y
      cases y
      exact .inr ⟨_, vs.toArray, _, e, rfl, rfl, rfl, by rw [List.size_toArray, nums.length]; exact few, by simpa using rel⟩
  have untracked : ∀ {b : Addr} {o : Obj}, s₁.heap.get? b = some o → (∀ q m, o.data ≠ .seq q m) → G b = none := fun {b o} e n1 => by
    cases z : G b with
    | none => rfl
    | some u =>
      exfalso
      obtain ⟨rfl, _, _⟩ := entry_some z
      rw [obj] at e
      cases e
      exact n1 _ _ rfl
  have dicts : ∀ {b : Addr} {m : Str → Option Value}, s₁.heap.Ns b m → (hidT s₁.heap G).Ns b m := fun {b m} y => by
    obtain ⟨o, es, ep, e, d, r⟩ := y
    refine ⟨o, es, ep, hidT_get e (untracked e fun q m z => ?_), d, r⟩
    rw [d] at z
    cases z
  have kinG : K.In (hidT s₁.heap G) := fun b o e => hidT_get (kin b o e) (by
    cases z : G b with
    | none => rfl
    | some u =>
      exfalso
      obtain ⟨rfl, n, _⟩ := entry_some z
      rw [n] at e
      cases e)
  have mods : Mod K mg (hidT s₁.heap G) := by
    obtain ⟨mc, l1, l2⟩ := lim
    exact ⟨kinG, dicts glob, ⟨mb, dicts bltn, same⟩, ⟨mc, dicts l1, l2⟩⟩
  have env : Env0 P w K mg (hidT s₁.heap G) callerA [] s₁ G := by
    refine ⟨rfl, mods, fun b o e => of_hidT e, Nat.le_of_eq (hidT_size _ _), trivial, fun b z => ?_, ok, .of_eq nog⟩
    cases (show b ∈ ([] : List Addr) from z)
  refine codeAny_mono (run _ kinG (dicts glob) callerA [] s₁ G ⟨[.ref a], []⟩ [.ref a] [.ref a] _ E0 rfl room env (binds s₁ (.ref a)) (.cons rfl .nil) rfl (want G sees)) fun r s' h => ?_
  match r, h with
  | .error e, h => exact False.elim h
  | .ok .next, h => exact False.elim h
  | .ok .brk, h => exact False.elim h
  | .ok .cont, h => exact False.elim h
  | .ok (.ret u), h =>
    obtain ⟨v, H', os, bare, un, ok', r', q⟩ := h
    obtain rfl : v = .bl true := q
    obtain rfl : u = Value.bool true := r'
    have kept : ∀ b o, s₁.heap.get? b = some o → s'.heap.get? b = some o := fun b o e => by
      cases z : G b with
      | none => exact un.keep b o e z (fun y => by cases (show b ∈ ([] : List Addr) from y)) (by simp)
      | some u =>
        obtain ⟨rfl, _, rfl⟩ := entry_some z
        obtain ⟨y1, _⟩ := ok' b _ (un.frzs b _ _ z)
        rw [obj] at e
        cases e
        exact y1
    exact ⟨rfl, ⟨fun b o e => .inl (kept b o e), fun b o e => ⟨o, kept b o e⟩⟩, os, bare⟩
end
theorem walk {l : PySem.W.OpenLaw} {q : Program} {loose : List Str} {XP : (Str → Option Value) → Heap → Prop} {YP : World → Heap → Prop} {d : DefRec} {K : Params → PySem.W.Frag} (hn : l.most = some 63) (hdf : d.params.defaults = [])
    (hY : ∀ (w : World) (h : Heap), YP w h → (K w.params).In h)
    (F : ∀ (w : World) (mg : Str → Option Value) (fa : Addr) (h : Heap), (K w.params).In h → h.Ns mainGlobals mg → mg d.name = some (.ref fa) →
      ∃ (fd : FuncData), (∀ (s : Shared) (u : Value), BindsTo s fd ⟨[u], []⟩ [("_law_script", u)]) ∧ ∀ base : Heap, (K w.params).In base → base.Ns mainGlobals mg → RunG l.prog w (K w.params) mg base 25 fa fd ["_law_script"] (spLaw (K w.params))) :
    PySem.W.WalkO q loose XP YP l.row.toRowW d [] (fun f vs => PySem.call f vs) := by
  refine Att.attach_callB hn hdf fun w s₀ s₁ mg mb fa o pm cd doc a us ns G Y ho hd hcd hmg hobj nums hlen _ hg => ?_
  have kin := hY w _ Y
  obtain ⟨fd, q9, run⟩ := F w mg fa _ kin G.T.g hmg
  exact end_of kin G.T.g G.T.b G.T.builtins G.T.nolimit hg hobj nums (Nat.le_trans hlen (by decide)) ⟨rfl, by decide, by decide⟩ run q9 fun H hS => ⟨a, ns, rfl, hS, hlen, fun _ => rfl⟩
end K03

set_option autoImplicit false
set_option maxRecDepth 100000
set_option maxHeartbeats 4000000
namespace K03
open PySem PySem.Spec PyProof.Rows L2 KX
def noB (K : PySem.W.Frag) (C : Addr) : Bool := frN.all fun f => decide (PySem.W.findIn K (.ref C) f = some none)
theorem sqt3 {K : PySem.W.Frag} {T : Addr} {od : Option Addr} {sl : Array (Option Value)} {n : Nat} {x y z : Str} {s t u : Tok} (h : K.lookup T = some ⟨.type "tuple", od, .seq #[.str x s, .str y t, .str z u] n, sl⟩) : ∀ H, SqT K H T ([x, y, z].map V.str) := fun H => .inr ⟨_, _, n, h, rfl, rfl, by rw [sizeLine_eq]; show 3 ≤ 16777216; decide, .cons ⟨_, rfl⟩ (.cons ⟨_, rfl⟩ (.cons ⟨_, rfl⟩ .nil))⟩
theorem sqt2 {K : PySem.W.Frag} {T : Addr} {od : Option Addr} {sl : Array (Option Value)} {n : Nat} {x y : Str} {s t : Tok} (h : K.lookup T = some ⟨.type "tuple", od, .seq #[.str x s, .str y t] n, sl⟩) : ∀ H, SqT K H T ([x, y].map V.str) := fun H => .inr ⟨_, _, n, h, rfl, rfl, by rw [sizeLine_eq]; show 2 ≤ 16777216; decide, .cons ⟨_, rfl⟩ (.cons ⟨_, rfl⟩ .nil)⟩
theorem all_mk {P : Program} {w : World} {K : PySem.W.Frag} {h : Heap} {mg : Str → Option Value} {fa : Addr} (X : K.In h) (G : h.Ns mainGlobals mg) (hfa : mg "law" = some (.ref fa))
    {C CI TO TA : Addr}
    {f0 : Addr} {oc0 kV0 dc0 pm0 cd0 ct0 : Value} {od0 an0 : Option Addr} {sl0 : Array (Option Value)}
    {f1 : Addr} {oc1 kV1 dc1 pm1 cd1 ct1 : Value} {od1 an1 : Option Addr} {sl1 : Array (Option Value)}
    {f2 : Addr} {oc2 kV2 dc2 pm2 cd2 ct2 : Value} {od2 an2 : Option Addr} {sl2 : Array (Option Value)}
    {f3 : Addr} {oc3 kV3 dc3 pm3 cd3 ct3 : Value} {od3 an3 : Option Addr} {sl3 : Array (Option Value)}
    {f4 : Addr} {oc4 kV4 dc4 pm4 cd4 ct4 : Value} {od4 an4 : Option Addr} {sl4 : Array (Option Value)}
    {f5 : Addr} {oc5 kV5 dc5 pm5 cd5 ct5 : Value} {od5 an5 : Option Addr} {sl5 : Array (Option Value)}
    {f6 : Addr} {oc6 kV6 dc6 pm6 cd6 ct6 : Value} {od6 an6 : Option Addr} {sl6 : Array (Option Value)}
    {f7 : Addr} {oc7 kV7 dc7 pm7 cd7 ct7 : Value} {od7 an7 : Option Addr} {sl7 : Array (Option Value)}
    {f8 : Addr} {oc8 kV8 dc8 pm8 cd8 ct8 : Value} {od8 an8 : Option Addr} {sl8 : Array (Option Value)}
    {f9 : Addr} {oc9 kV9 dc9 pm9 cd9 ct9 : Value} {od9 an9 : Option Addr} {sl9 : Array (Option Value)}
    {f10 : Addr} {oc10 kV10 dc10 pm10 cd10 ct10 : Value} {od10 an10 : Option Addr} {sl10 : Array (Option Value)}
    {f11 : Addr} {oc11 kV11 dc11 pm11 cd11 ct11 : Value} {od11 an11 : Option Addr} {sl11 : Array (Option Value)}
    {f12 : Addr} {oc12 kV12 dc12 pm12 cd12 ct12 : Value} {od12 an12 : Option Addr} {sl12 : Array (Option Value)}
    {f13 : Addr} {oc13 kV13 dc13 pm13 cd13 ct13 : Value} {od13 an13 : Option Addr} {sl13 : Array (Option Value)}
    {f14 : Addr} {oc14 kV14 dc14 pm14 cd14 ct14 : Value} {od14 an14 : Option Addr} {sl14 : Array (Option Value)}
    {f15 : Addr} {oc15 kV15 dc15 pm15 cd15 ct15 : Value} {od15 an15 : Option Addr} {sl15 : Array (Option Value)}
    {f16 : Addr} {oc16 kV16 dc16 pm16 cd16 ct16 : Value} {od16 an16 : Option Addr} {sl16 : Array (Option Value)}
    {f17 : Addr} {oc17 kV17 dc17 pm17 cd17 ct17 : Value} {od17 an17 : Option Addr} {sl17 : Array (Option Value)}
    {f18 : Addr} {oc18 kV18 dc18 pm18 cd18 ct18 : Value} {od18 an18 : Option Addr} {sl18 : Array (Option Value)}
    {f19 : Addr} {oc19 kV19 dc19 pm19 cd19 ct19 : Value} {od19 an19 : Option Addr} {sl19 : Array (Option Value)}
    {f20 : Addr} {oc20 kV20 dc20 pm20 cd20 ct20 : Value} {od20 an20 : Option Addr} {sl20 : Array (Option Value)}
    {f21 : Addr} {oc21 kV21 dc21 pm21 cd21 ct21 : Value} {od21 an21 : Option Addr} {sl21 : Array (Option Value)}
    {f22 : Addr} {oc22 kV22 dc22 pm22 cd22 ct22 : Value} {od22 an22 : Option Addr} {sl22 : Array (Option Value)}
    {f23 : Addr} {oc23 kV23 dc23 pm23 cd23 ct23 : Value} {od23 an23 : Option Addr} {sl23 : Array (Option Value)}
    {f24 : Addr} {oc24 kV24 dc24 pm24 cd24 ct24 : Value} {od24 an24 : Option Addr} {sl24 : Array (Option Value)}
    {f25 : Addr} {oc25 kV25 dc25 pm25 cd25 ct25 : Value} {od25 an25 : Option Addr} {sl25 : Array (Option Value)}
    {f26 : Addr} {oc26 kV26 dc26 pm26 cd26 ct26 : Value} {od26 an26 : Option Addr} {sl26 : Array (Option Value)}
    {f27 : Addr} {oc27 kV27 dc27 pm27 cd27 ct27 : Value} {od27 an27 : Option Addr} {sl27 : Array (Option Value)}
    {f28 : Addr} {oc28 kV28 dc28 pm28 cd28 ct28 : Value} {od28 an28 : Option Addr} {sl28 : Array (Option Value)}
    {f29 : Addr} {oc29 kV29 dc29 pm29 cd29 ct29 : Value} {od29 an29 : Option Addr} {sl29 : Array (Option Value)}
    {f30 : Addr} {oc30 kV30 dc30 pm30 cd30 ct30 : Value} {od30 an30 : Option Addr} {sl30 : Array (Option Value)}
    {f31 : Addr} {oc31 kV31 dc31 pm31 cd31 ct31 : Value} {od31 an31 : Option Addr} {sl31 : Array (Option Value)}
    {f32 : Addr} {oc32 kV32 dc32 pm32 cd32 ct32 : Value} {od32 an32 : Option Addr} {sl32 : Array (Option Value)}
    {f33 : Addr} {oc33 kV33 dc33 pm33 cd33 ct33 : Value} {od33 an33 : Option Addr} {sl33 : Array (Option Value)}
    {f34 : Addr} {oc34 kV34 dc34 pm34 cd34 ct34 : Value} {od34 an34 : Option Addr} {sl34 : Array (Option Value)}
    {f35 : Addr} {oc35 kV35 dc35 pm35 cd35 ct35 : Value} {od35 an35 : Option Addr} {sl35 : Array (Option Value)}
    {f36 : Addr} {oc36 kV36 dc36 pm36 cd36 ct36 : Value} {od36 an36 : Option Addr} {sl36 : Array (Option Value)}
    {f37 : Addr} {oc37 kV37 dc37 pm37 cd37 ct37 : Value} {od37 an37 : Option Addr} {sl37 : Array (Option Value)}
    {f38 : Addr} {oc38 kV38 dc38 pm38 cd38 ct38 : Value} {od38 an38 : Option Addr} {sl38 : Array (Option Value)}
    {f39 : Addr} {oc39 kV39 dc39 pm39 cd39 ct39 : Value} {od39 an39 : Option Addr} {sl39 : Array (Option Value)}
    {f40 : Addr} {oc40 kV40 dc40 pm40 cd40 ct40 : Value} {od40 an40 : Option Addr} {sl40 : Array (Option Value)}
    {f41 : Addr} {oc41 kV41 dc41 pm41 cd41 ct41 : Value} {od41 an41 : Option Addr} {sl41 : Array (Option Value)}
    {f42 : Addr} {oc42 kV42 dc42 pm42 cd42 ct42 : Value} {od42 an42 : Option Addr} {sl42 : Array (Option Value)}
    {f43 : Addr} {oc43 kV43 dc43 pm43 cd43 ct43 : Value} {od43 an43 : Option Addr} {sl43 : Array (Option Value)}
    {f44 : Addr} {oc44 kV44 dc44 pm44 cd44 ct44 : Value} {od44 an44 : Option Addr} {sl44 : Array (Option Value)}
    {f45 : Addr} {oc45 kV45 dc45 pm45 cd45 ct45 : Value} {od45 an45 : Option Addr} {sl45 : Array (Option Value)}
    {f46 : Addr} {oc46 kV46 dc46 pm46 cd46 ct46 : Value} {od46 an46 : Option Addr} {sl46 : Array (Option Value)}
    {f47 : Addr} {oc47 kV47 dc47 pm47 cd47 ct47 : Value} {od47 an47 : Option Addr} {sl47 : Array (Option Value)}
    {f48 : Addr} {oc48 kV48 dc48 pm48 cd48 ct48 : Value} {od48 an48 : Option Addr} {sl48 : Array (Option Value)}
    {I0 : Addr} {ic0 iV0 idc0 ipm0 icd0 ict0 : Value} {iod0 ian0 : Option Addr} {isl0 : Array (Option Value)}
    {I1 : Addr} {ic1 iV1 idc1 ipm1 icd1 ict1 : Value} {iod1 ian1 : Option Addr} {isl1 : Array (Option Value)}
    {I2 : Addr} {ic2 iV2 idc2 ipm2 icd2 ict2 : Value} {iod2 ian2 : Option Addr} {isl2 : Array (Option Value)}
    {I3 : Addr} {ic3 iV3 idc3 ipm3 icd3 ict3 : Value} {iod3 ian3 : Option Addr} {isl3 : Array (Option Value)}
    {tl tm ta tp tv to ti td o1 o2 o3 a1 a2 : Tok} {odO odA : Option Addr} {slO slA : Array (Option Value)} {nO nA : Nat}
    (aC : PySem.W.nsIn K mainGlobals "Frame" = some (some (.ref C)))
    (aCI : PySem.W.nsIn K mainGlobals "InvalidFrame" = some (some (.ref CI)))
    (af0 : PySem.W.nsIn K mainGlobals "is_whole" = some (some (.ref f0)))
    (lf0 : K.lookup f0 = some ⟨oc0, od0, .func (PySem.W.fnOf "is_whole" "is_whole" (defArgs sWhole) (defBody sWhole) (defScope sWhole) .none kV0 dc0 pm0 an0 cd0 ct0), sl0⟩)
    (cf0 : PySem.W.codeIn K cd0 "is_whole" = true)
    (kf0 : PySem.W.keepIn K (.ref f0) = true)
    (af1 : PySem.W.nsIn K mainGlobals "is_integer" = some (some (.ref f1)))
    (lf1 : K.lookup f1 = some ⟨oc1, od1, .func (PySem.W.fnOf "is_integer" "is_integer" (defArgs sIg) (defBody sIg) (defScope sIg) .none kV1 dc1 pm1 an1 cd1 ct1), sl1⟩)
    (cf1 : PySem.W.codeIn K cd1 "is_integer" = true)
    (kf1 : PySem.W.keepIn K (.ref f1) = true)
    (af2 : PySem.W.nsIn K mainGlobals "is_name" = some (some (.ref f2)))
    (lf2 : K.lookup f2 = some ⟨oc2, od2, .func (PySem.W.fnOf "is_name" "is_name" (defArgs sIsName) (defBody sIsName) (defScope sIsName) .none kV2 dc2 pm2 an2 cd2 ct2), sl2⟩)
    (cf2 : PySem.W.codeIn K cd2 "is_name" = true)
    (kf2 : PySem.W.keepIn K (.ref f2) = true)
    (af3 : PySem.W.nsIn K mainGlobals "check_frame" = some (some (.ref f3)))
    (lf3 : K.lookup f3 = some ⟨oc3, od3, .func (PySem.W.fnOf "check_frame" "check_frame" (defArgs sCf) (defBody sCf) (defScope sCf) .none kV3 dc3 pm3 an3 cd3 ct3), sl3⟩)
    (cf3 : PySem.W.codeIn K cd3 "check_frame" = true)
    (kf3 : PySem.W.keepIn K (.ref f3) = true)
    (af4 : PySem.W.nsIn K mainGlobals "are_names" = some (some (.ref f4)))
    (lf4 : K.lookup f4 = some ⟨oc4, od4, .func (PySem.W.fnOf "are_names" "are_names" (defArgs sAreNames) (defBody sAreNames) (defScope sAreNames) .none kV4 dc4 pm4 an4 cd4 ct4), sl4⟩)
    (cf4 : PySem.W.codeIn K cd4 "are_names" = true)
    (kf4 : PySem.W.keepIn K (.ref f4) = true)
    (af5 : PySem.W.nsIn K mainGlobals "are_arrays" = some (some (.ref f5)))
    (lf5 : K.lookup f5 = some ⟨oc5, od5, .func (PySem.W.fnOf "are_arrays" "are_arrays" (defArgs sAreArrays) (defBody sAreArrays) (defScope sAreArrays) .none kV5 dc5 pm5 an5 cd5 ct5), sl5⟩)
    (cf5 : PySem.W.codeIn K cd5 "are_arrays" = true)
    (kf5 : PySem.W.keepIn K (.ref f5) = true)
    (af6 : PySem.W.nsIn K mainGlobals "lengths_in" = some (some (.ref f6)))
    (lf6 : K.lookup f6 = some ⟨oc6, od6, .func (PySem.W.fnOf "lengths_in" "lengths_in" (defArgs sLengthsIn) (defBody sLengthsIn) (defScope sLengthsIn) .none kV6 dc6 pm6 an6 cd6 ct6), sl6⟩)
    (cf6 : PySem.W.codeIn K cd6 "lengths_in" = true)
    (kf6 : PySem.W.keepIn K (.ref f6) = true)
    (af7 : PySem.W.nsIn K mainGlobals "words_in" = some (some (.ref f7)))
    (lf7 : K.lookup f7 = some ⟨oc7, od7, .func (PySem.W.fnOf "words_in" "words_in" (defArgs sWordsIn) (defBody sWordsIn) (defScope sWordsIn) .none kV7 dc7 pm7 an7 cd7 ct7), sl7⟩)
    (cf7 : PySem.W.codeIn K cd7 "words_in" = true)
    (kf7 : PySem.W.keepIn K (.ref f7) = true)
    (af8 : PySem.W.nsIn K mainGlobals "is_frame_of" = some (some (.ref f8)))
    (lf8 : K.lookup f8 = some ⟨oc8, od8, .func (PySem.W.fnOf "is_frame_of" "is_frame_of" (defArgs sFrameOf) (defBody sFrameOf) (defScope sFrameOf) .none kV8 dc8 pm8 an8 cd8 ct8), sl8⟩)
    (cf8 : PySem.W.codeIn K cd8 "is_frame_of" = true)
    (kf8 : PySem.W.keepIn K (.ref f8) = true)
    (af9 : PySem.W.nsIn K mainGlobals "is_position_over" = some (some (.ref f9)))
    (lf9 : K.lookup f9 = some ⟨oc9, od9, .func (PySem.W.fnOf "is_position_over" "is_position_over" (defArgs sPos) (defBody sPos) (defScope sPos) .none kV9 dc9 pm9 an9 cd9 ct9), sl9⟩)
    (cf9 : PySem.W.codeIn K cd9 "is_position_over" = true)
    (kf9 : PySem.W.keepIn K (.ref f9) = true)
    (af10 : PySem.W.nsIn K mainGlobals "is_value_over" = some (some (.ref f10)))
    (lf10 : K.lookup f10 = some ⟨oc10, od10, .func (PySem.W.fnOf "is_value_over" "is_value_over" (defArgs sVal) (defBody sVal) (defScope sVal) .none kV10 dc10 pm10 an10 cd10 ct10), sl10⟩)
    (cf10 : PySem.W.codeIn K cd10 "is_value_over" = true)
    (kf10 : PySem.W.keepIn K (.ref f10) = true)
    (af11 : PySem.W.nsIn K mainGlobals "is_worded" = some (some (.ref f11)))
    (lf11 : K.lookup f11 = some ⟨oc11, od11, .func (PySem.W.fnOf "is_worded" "is_worded" (defArgs sWd) (defBody sWd) (defScope sWd) .none kV11 dc11 pm11 an11 cd11 ct11), sl11⟩)
    (cf11 : PySem.W.codeIn K cd11 "is_worded" = true)
    (kf11 : PySem.W.keepIn K (.ref f11) = true)
    (af12 : PySem.W.nsIn K mainGlobals "is_atom" = some (some (.ref f12)))
    (lf12 : K.lookup f12 = some ⟨oc12, od12, .func (PySem.W.fnOf "is_atom" "is_atom" (defArgs sAtm) (defBody sAtm) (defScope sAtm) .none kV12 dc12 pm12 an12 cd12 ct12), sl12⟩)
    (cf12 : PySem.W.codeIn K cd12 "is_atom" = true)
    (kf12 : PySem.W.keepIn K (.ref f12) = true)
    (af13 : PySem.W.nsIn K mainGlobals "has_parts" = some (some (.ref f13)))
    (lf13 : K.lookup f13 = some ⟨oc13, od13, .func (PySem.W.fnOf "has_parts" "has_parts" (defArgs sPt) (defBody sPt) (defScope sPt) .none kV13 dc13 pm13 an13 cd13 ct13), sl13⟩)
    (cf13 : PySem.W.codeIn K cd13 "has_parts" = true)
    (kf13 : PySem.W.keepIn K (.ref f13) = true)
    (af14 : PySem.W.nsIn K mainGlobals "is_form" = some (some (.ref f14)))
    (lf14 : K.lookup f14 = some ⟨oc14, od14, .func (PySem.W.fnOf "is_form" "is_form" (defArgs sFm) (defBody sFm) (defScope sFm) .none kV14 dc14 pm14 an14 cd14 ct14), sl14⟩)
    (cf14 : PySem.W.codeIn K cd14 "is_form" = true)
    (kf14 : PySem.W.keepIn K (.ref f14) = true)
    (af15 : PySem.W.nsIn K mainGlobals "is_all_form" = some (some (.ref f15)))
    (lf15 : K.lookup f15 = some ⟨oc15, od15, .func (PySem.W.fnOf "is_all_form" "is_all_form" (defArgs sAf) (defBody sAf) (defScope sAf) .none kV15 dc15 pm15 an15 cd15 ct15), sl15⟩)
    (cf15 : PySem.W.codeIn K cd15 "is_all_form" = true)
    (kf15 : PySem.W.keepIn K (.ref f15) = true)
    (af16 : PySem.W.nsIn K mainGlobals "is_guard" = some (some (.ref f16)))
    (lf16 : K.lookup f16 = some ⟨oc16, od16, .func (PySem.W.fnOf "is_guard" "is_guard" (defArgs sGd) (defBody sGd) (defScope sGd) .none kV16 dc16 pm16 an16 cd16 ct16), sl16⟩)
    (cf16 : PySem.W.codeIn K cd16 "is_guard" = true)
    (kf16 : PySem.W.keepIn K (.ref f16) = true)
    (af17 : PySem.W.nsIn K mainGlobals "is_guard_atom" = some (some (.ref f17)))
    (lf17 : K.lookup f17 = some ⟨oc17, od17, .func (PySem.W.fnOf "is_guard_atom" "is_guard_atom" (defArgs sGa) (defBody sGa) (defScope sGa) .none kV17 dc17 pm17 an17 cd17 ct17), sl17⟩)
    (cf17 : PySem.W.codeIn K cd17 "is_guard_atom" = true)
    (kf17 : PySem.W.keepIn K (.ref f17) = true)
    (af18 : PySem.W.nsIn K mainGlobals "is_body" = some (some (.ref f18)))
    (lf18 : K.lookup f18 = some ⟨oc18, od18, .func (PySem.W.fnOf "is_body" "is_body" (defArgs sBd) (defBody sBd) (defScope sBd) .none kV18 dc18 pm18 an18 cd18 ct18), sl18⟩)
    (cf18 : PySem.W.codeIn K cd18 "is_body" = true)
    (kf18 : PySem.W.keepIn K (.ref f18) = true)
    (af19 : PySem.W.nsIn K mainGlobals "has_own_unshifted" = some (some (.ref f19)))
    (lf19 : K.lookup f19 = some ⟨oc19, od19, .func (PySem.W.fnOf "has_own_unshifted" "has_own_unshifted" (defArgs sOu) (defBody sOu) (defScope sOu) .none kV19 dc19 pm19 an19 cd19 ct19), sl19⟩)
    (cf19 : PySem.W.codeIn K cd19 "has_own_unshifted" = true)
    (kf19 : PySem.W.keepIn K (.ref f19) = true)
    (af20 : PySem.W.nsIn K mainGlobals "atoms_in" = some (some (.ref f20)))
    (lf20 : K.lookup f20 = some ⟨oc20, od20, .func (PySem.W.fnOf "atoms_in" "atoms_in" (defArgs sAi) (defBody sAi) (defScope sAi) .none kV20 dc20 pm20 an20 cd20 ct20), sl20⟩)
    (cf20 : PySem.W.codeIn K cd20 "atoms_in" = true)
    (kf20 : PySem.W.keepIn K (.ref f20) = true)
    (af21 : PySem.W.nsIn K mainGlobals "is_claim" = some (some (.ref f21)))
    (lf21 : K.lookup f21 = some ⟨oc21, od21, .func (PySem.W.fnOf "is_claim" "is_claim" (defArgs sIc) (defBody sIc) (defScope sIc) .none kV21 dc21 pm21 an21 cd21 ct21), sl21⟩)
    (cf21 : PySem.W.codeIn K cd21 "is_claim" = true)
    (kf21 : PySem.W.keepIn K (.ref f21) = true)
    (af22 : PySem.W.nsIn K mainGlobals "check_claim" = some (some (.ref f22)))
    (lf22 : K.lookup f22 = some ⟨oc22, od22, .func (PySem.W.fnOf "check_claim" "check_claim" (defArgs sCc) (defBody sCc) (defScope sCc) .none kV22 dc22 pm22 an22 cd22 ct22), sl22⟩)
    (cf22 : PySem.W.codeIn K cd22 "check_claim" = true)
    (kf22 : PySem.W.keepIn K (.ref f22) = true)
    (af23 : PySem.W.nsIn K mainGlobals "names_of" = some (some (.ref f23)))
    (lf23 : K.lookup f23 = some ⟨oc23, od23, .func (PySem.W.fnOf "names_of" "names_of" (defArgs sNo) (defBody sNo) (defScope sNo) .none kV23 dc23 pm23 an23 cd23 ct23), sl23⟩)
    (cf23 : PySem.W.codeIn K cd23 "names_of" = true)
    (kf23 : PySem.W.keepIn K (.ref f23) = true)
    (af24 : PySem.W.nsIn K mainGlobals "_law_creel" = some (some (.ref f24)))
    (lf24 : K.lookup f24 = some ⟨oc24, od24, .func (PySem.W.fnOf "_law_creel" "_law_creel" (defArgs sCreel) (defBody sCreel) (defScope sCreel) .none kV24 dc24 pm24 an24 cd24 ct24), sl24⟩)
    (cf24 : PySem.W.codeIn K cd24 "_law_creel" = true)
    (kf24 : PySem.W.keepIn K (.ref f24) = true)
    (af25 : PySem.W.nsIn K mainGlobals "_law_fish" = some (some (.ref f25)))
    (lf25 : K.lookup f25 = some ⟨oc25, od25, .func (PySem.W.fnOf "_law_fish" "_law_fish" (defArgs sFish) (defBody sFish) (defScope sFish) .none kV25 dc25 pm25 an25 cd25 ct25), sl25⟩)
    (cf25 : PySem.W.codeIn K cd25 "_law_fish" = true)
    (kf25 : PySem.W.keepIn K (.ref f25) = true)
    (af26 : PySem.W.nsIn K mainGlobals "_law_one_of" = some (some (.ref f26)))
    (lf26 : K.lookup f26 = some ⟨oc26, od26, .func (PySem.W.fnOf "_law_one_of" "_law_one_of" (defArgs sOne) (defBody sOne) (defScope sOne) .none kV26 dc26 pm26 an26 cd26 ct26), sl26⟩)
    (cf26 : PySem.W.codeIn K cd26 "_law_one_of" = true)
    (kf26 : PySem.W.keepIn K (.ref f26) = true)
    (af27 : PySem.W.nsIn K mainGlobals "_law_few_of" = some (some (.ref f27)))
    (lf27 : K.lookup f27 = some ⟨oc27, od27, .func (PySem.W.fnOf "_law_few_of" "_law_few_of" (defArgs sFew) (defBody sFew) (defScope sFew) .none kV27 dc27 pm27 an27 cd27 ct27), sl27⟩)
    (cf27 : PySem.W.codeIn K cd27 "_law_few_of" = true)
    (kf27 : PySem.W.keepIn K (.ref f27) = true)
    (af28 : PySem.W.nsIn K mainGlobals "_law_parts" = some (some (.ref f28)))
    (lf28 : K.lookup f28 = some ⟨oc28, od28, .func (PySem.W.fnOf "_law_parts" "_law_parts" (defArgs sPts) (defBody sPts) (defScope sPts) .none kV28 dc28 pm28 an28 cd28 ct28), sl28⟩)
    (cf28 : PySem.W.codeIn K cd28 "_law_parts" = true)
    (kf28 : PySem.W.keepIn K (.ref f28) = true)
    (af29 : PySem.W.nsIn K mainGlobals "_law_lengths" = some (some (.ref f29)))
    (lf29 : K.lookup f29 = some ⟨oc29, od29, .func (PySem.W.fnOf "_law_lengths" "_law_lengths" (defArgs sLens) (defBody sLens) (defScope sLens) .none kV29 dc29 pm29 an29 cd29 ct29), sl29⟩)
    (cf29 : PySem.W.codeIn K cd29 "_law_lengths" = true)
    (kf29 : PySem.W.keepIn K (.ref f29) = true)
    (af30 : PySem.W.nsIn K mainGlobals "_law_frame" = some (some (.ref f30)))
    (lf30 : K.lookup f30 = some ⟨oc30, od30, .func (PySem.W.fnOf "_law_frame" "_law_frame" (defArgs sFrame) (defBody sFrame) (defScope sFrame) .none kV30 dc30 pm30 an30 cd30 ct30), sl30⟩)
    (cf30 : PySem.W.codeIn K cd30 "_law_frame" = true)
    (kf30 : PySem.W.keepIn K (.ref f30) = true)
    (af31 : PySem.W.nsIn K mainGlobals "_law_all_of" = some (some (.ref f31)))
    (lf31 : K.lookup f31 = some ⟨oc31, od31, .func (PySem.W.fnOf "_law_all_of" "_law_all_of" (defArgs sAll) (defBody sAll) (defScope sAll) .none kV31 dc31 pm31 an31 cd31 ct31), sl31⟩)
    (cf31 : PySem.W.codeIn K cd31 "_law_all_of" = true)
    (kf31 : PySem.W.keepIn K (.ref f31) = true)
    (af32 : PySem.W.nsIn K mainGlobals "_law_place" = some (some (.ref f32)))
    (lf32 : K.lookup f32 = some ⟨oc32, od32, .func (PySem.W.fnOf "_law_place" "_law_place" (defArgs sPlc) (defBody sPlc) (defScope sPlc) .none kV32 dc32 pm32 an32 cd32 ct32), sl32⟩)
    (cf32 : PySem.W.codeIn K cd32 "_law_place" = true)
    (kf32 : PySem.W.keepIn K (.ref f32) = true)
    (af33 : PySem.W.nsIn K mainGlobals "_law_worth" = some (some (.ref f33)))
    (lf33 : K.lookup f33 = some ⟨oc33, od33, .func (PySem.W.fnOf "_law_worth" "_law_worth" (defArgs sWth) (defBody sWth) (defScope sWth) .none kV33 dc33 pm33 an33 cd33 ct33), sl33⟩)
    (cf33 : PySem.W.codeIn K cd33 "_law_worth" = true)
    (kf33 : PySem.W.keepIn K (.ref f33) = true)
    (af34 : PySem.W.nsIn K mainGlobals "_law_own_drawn" = some (some (.ref f34)))
    (lf34 : K.lookup f34 = some ⟨oc34, od34, .func (PySem.W.fnOf "_law_own_drawn" "_law_own_drawn" (defArgs sOwn) (defBody sOwn) (defScope sOwn) .none kV34 dc34 pm34 an34 cd34 ct34), sl34⟩)
    (cf34 : PySem.W.codeIn K cd34 "_law_own_drawn" = true)
    (kf34 : PySem.W.keepIn K (.ref f34) = true)
    (af35 : PySem.W.nsIn K mainGlobals "_law_guard" = some (some (.ref f35)))
    (lf35 : K.lookup f35 = some ⟨oc35, od35, .func (PySem.W.fnOf "_law_guard" "_law_guard" (defArgs sGu) (defBody sGu) (defScope sGu) .none kV35 dc35 pm35 an35 cd35 ct35), sl35⟩)
    (cf35 : PySem.W.codeIn K cd35 "_law_guard" = true)
    (kf35 : PySem.W.keepIn K (.ref f35) = true)
    (af36 : PySem.W.nsIn K mainGlobals "_law_body" = some (some (.ref f36)))
    (lf36 : K.lookup f36 = some ⟨oc36, od36, .func (PySem.W.fnOf "_law_body" "_law_body" (defArgs sBo) (defBody sBo) (defScope sBo) .none kV36 dc36 pm36 an36 cd36 ct36), sl36⟩)
    (cf36 : PySem.W.codeIn K cd36 "_law_body" = true)
    (kf36 : PySem.W.keepIn K (.ref f36) = true)
    (af37 : PySem.W.nsIn K mainGlobals "_law_all" = some (some (.ref f37)))
    (lf37 : K.lookup f37 = some ⟨oc37, od37, .func (PySem.W.fnOf "_law_all" "_law_all" (defArgs sAl) (defBody sAl) (defScope sAl) .none kV37 dc37 pm37 an37 cd37 ct37), sl37⟩)
    (cf37 : PySem.W.codeIn K cd37 "_law_all" = true)
    (kf37 : PySem.W.keepIn K (.ref f37) = true)
    (af38 : PySem.W.nsIn K mainGlobals "_law_claim" = some (some (.ref f38)))
    (lf38 : K.lookup f38 = some ⟨oc38, od38, .func (PySem.W.fnOf "_law_claim" "_law_claim" (defArgs sCl) (defBody sCl) (defScope sCl) .none kV38 dc38 pm38 an38 cd38 ct38), sl38⟩)
    (cf38 : PySem.W.codeIn K cd38 "_law_claim" = true)
    (kf38 : PySem.W.keepIn K (.ref f38) = true)
    (af39 : PySem.W.nsIn K mainGlobals "_law_is_own" = some (some (.ref f39)))
    (lf39 : K.lookup f39 = some ⟨oc39, od39, .func (PySem.W.fnOf "_law_is_own" "_law_is_own" (defArgs sIo) (defBody sIo) (defScope sIo) .none kV39 dc39 pm39 an39 cd39 ct39), sl39⟩)
    (cf39 : PySem.W.codeIn K cd39 "_law_is_own" = true)
    (kf39 : PySem.W.keepIn K (.ref f39) = true)
    (af40 : PySem.W.nsIn K mainGlobals "_law_is_term" = some (some (.ref f40)))
    (lf40 : K.lookup f40 = some ⟨oc40, od40, .func (PySem.W.fnOf "_law_is_term" "_law_is_term" (defArgs sTm) (defBody sTm) (defScope sTm) .none kV40 dc40 pm40 an40 cd40 ct40), sl40⟩)
    (cf40 : PySem.W.codeIn K cd40 "_law_is_term" = true)
    (kf40 : PySem.W.keepIn K (.ref f40) = true)
    (af41 : PySem.W.nsIn K mainGlobals "_law_is_amount" = some (some (.ref f41)))
    (lf41 : K.lookup f41 = some ⟨oc41, od41, .func (PySem.W.fnOf "_law_is_amount" "_law_is_amount" (defArgs sAm) (defBody sAm) (defScope sAm) .none kV41 dc41 pm41 an41 cd41 ct41), sl41⟩)
    (cf41 : PySem.W.codeIn K cd41 "_law_is_amount" = true)
    (kf41 : PySem.W.keepIn K (.ref f41) = true)
    (af42 : PySem.W.nsIn K mainGlobals "_law_fits" = some (some (.ref f42)))
    (lf42 : K.lookup f42 = some ⟨oc42, od42, .func (PySem.W.fnOf "_law_fits" "_law_fits" (defArgs sFi) (defBody sFi) (defScope sFi) .none kV42 dc42 pm42 an42 cd42 ct42), sl42⟩)
    (cf42 : PySem.W.codeIn K cd42 "_law_fits" = true)
    (kf42 : PySem.W.keepIn K (.ref f42) = true)
    (af43 : PySem.W.nsIn K mainGlobals "_law_depth" = some (some (.ref f43)))
    (lf43 : K.lookup f43 = some ⟨oc43, od43, .func (PySem.W.fnOf "_law_depth" "_law_depth" (defArgs sDp) (defBody sDp) (defScope sDp) .none kV43 dc43 pm43 an43 cd43 ct43), sl43⟩)
    (cf43 : PySem.W.codeIn K cd43 "_law_depth" = true)
    (kf43 : PySem.W.keepIn K (.ref f43) = true)
    (af44 : PySem.W.nsIn K mainGlobals "_law_names" = some (some (.ref f44)))
    (lf44 : K.lookup f44 = some ⟨oc44, od44, .func (PySem.W.fnOf "_law_names" "_law_names" (defArgs sLn) (defBody sLn) (defScope sLn) .none kV44 dc44 pm44 an44 cd44 ct44), sl44⟩)
    (cf44 : PySem.W.codeIn K cd44 "_law_names" = true)
    (kf44 : PySem.W.keepIn K (.ref f44) = true)
    (af45 : PySem.W.nsIn K mainGlobals "_law_odd" = some (some (.ref f45)))
    (lf45 : K.lookup f45 = some ⟨oc45, od45, .func (PySem.W.fnOf "_law_odd" "_law_odd" (defArgs sOd) (defBody sOd) (defScope sOd) .none kV45 dc45 pm45 an45 cd45 ct45), sl45⟩)
    (cf45 : PySem.W.codeIn K cd45 "_law_odd" = true)
    (kf45 : PySem.W.keepIn K (.ref f45) = true)
    (af46 : PySem.W.nsIn K mainGlobals "_law_bent" = some (some (.ref f46)))
    (lf46 : K.lookup f46 = some ⟨oc46, od46, .func (PySem.W.fnOf "_law_bent" "_law_bent" (defArgs sBe) (defBody sBe) (defScope sBe) .none kV46 dc46 pm46 an46 cd46 ct46), sl46⟩)
    (cf46 : PySem.W.codeIn K cd46 "_law_bent" = true)
    (kf46 : PySem.W.keepIn K (.ref f46) = true)
    (af47 : PySem.W.nsIn K mainGlobals "_law_right" = some (some (.ref f47)))
    (lf47 : K.lookup f47 = some ⟨oc47, od47, .func (PySem.W.fnOf "_law_right" "_law_right" (defArgs sRi) (defBody sRi) (defScope sRi) .none kV47 dc47 pm47 an47 cd47 ct47), sl47⟩)
    (cf47 : PySem.W.codeIn K cd47 "_law_right" = true)
    (kf47 : PySem.W.keepIn K (.ref f47) = true)
    (af48 : PySem.W.nsIn K mainGlobals "law" = some (some (.ref f48)))
    (lf48 : K.lookup f48 = some ⟨oc48, od48, .func (PySem.W.fnOf "law" "law" (defArgs sLaw) (defBody sLaw) (defScope sLaw) .none kV48 dc48 pm48 an48 cd48 ct48), sl48⟩)
    (cf48 : PySem.W.codeIn K cd48 "law" = true)
    (kf48 : PySem.W.keepIn K (.ref f48) = true)
    (aI0 : PySem.W.findIn K (.ref C) "__init__" = some (some (.ref I0)))
    (lI0 : K.lookup I0 = some ⟨ic0, iod0, .func (PySem.W.fnOf "__init__" "Frame.__init__" (defArgs sInit) (defBody sInit) (defScope sInit) .none iV0 idc0 ipm0 ian0 icd0 ict0), isl0⟩)
    (cI0 : PySem.W.codeIn K icd0 "Frame.__init__" = true)
    (kI0 : PySem.W.keepIn K (.ref I0) = true)
    (nI0 : PySem.W.isFn K (.ref I0) = true)
    (aI1 : PySem.W.findIn K (.ref C) "has_kind" = some (some (.ref I1)))
    (lI1 : K.lookup I1 = some ⟨ic1, iod1, .func (PySem.W.fnOf "has_kind" "Frame.has_kind" (defArgs sHas) (defBody sHas) (defScope sHas) .none iV1 idc1 ipm1 ian1 icd1 ict1), isl1⟩)
    (cI1 : PySem.W.codeIn K icd1 "Frame.has_kind" = true)
    (kI1 : PySem.W.keepIn K (.ref I1) = true)
    (nI1 : PySem.W.isFn K (.ref I1) = true)
    (aI2 : PySem.W.findIn K (.ref C) "is_fresh" = some (some (.ref I2)))
    (lI2 : K.lookup I2 = some ⟨ic2, iod2, .func (PySem.W.fnOf "is_fresh" "Frame.is_fresh" (defArgs sFresh) (defBody sFresh) (defScope sFresh) .none iV2 idc2 ipm2 ian2 icd2 ict2), isl2⟩)
    (cI2 : PySem.W.codeIn K icd2 "Frame.is_fresh" = true)
    (kI2 : PySem.W.keepIn K (.ref I2) = true)
    (nI2 : PySem.W.isFn K (.ref I2) = true)
    (aI3 : PySem.W.findIn K (.ref C) "__contains__" = some (some (.ref I3)))
    (lI3 : K.lookup I3 = some ⟨ic3, iod3, .func (PySem.W.fnOf "__contains__" "Frame.__contains__" (defArgs sIn) (defBody sIn) (defScope sIn) .none iV3 idc3 ipm3 ian3 icd3 ict3), isl3⟩)
    (cI3 : PySem.W.codeIn K icd3 "Frame.__contains__" = true)
    (kI3 : PySem.W.keepIn K (.ref I3) = true)
    (nI3 : PySem.W.isFn K (.ref I3) = true)
    (cPg : PySem.W.plainGet K C Str.empty = true)
    (cHd : PySem.W.hasDictIn K C = true)
    (cPo : PySem.W.plainOver K C = true)
    (cSa : PySem.W.findIn K (.ref C) "__setattr__" = some (some (.builtin "object.__setattr__")))
    (cNo : noB K C = true)
    (cMk : PySem.W.makesIn K C = true)
    (cKp : PySem.W.keepIn K (.ref C) = true)
    (xOvCI : PySem.W.excIn K CI [.type "ValueError", .type "Exception", .type "BaseException", .type "object"] "ValueError.__new__" = true)
    (xKpCI : PySem.W.keepIn K (.ref CI) = true)
    (xBeCI : PySem.W.subIn K (.ref CI) (.type "BaseException") = some true)
    (xTyCI : PySem.W.typeIn K (.ref CI) = some (.type "type"))
    (iHa : PySem.W.findIn K (.ref C) "__class__" = some (some (.builtin "object.__class__")))
    (iHn : PySem.W.specialIn K (.builtin "object.__class__") "__get__" = some (some (.builtin "getset_descriptor.__get__")))
    (iHt : PySem.W.takesIn K (.builtin "object.__class__") = some true)
    (iHm : PySem.W.mroIn K C (.type "object") = some true)
    (iKt : PySem.W.kitOne K (.ref C) (.ref C) = some true)
    (iKl : PySem.W.kitOne K (.type "list") (.ref C) = some false)
    (aL : PySem.W.nsIn K mainGlobals "LETTERS" = some (some (.str "abcdefghijklmnopqrstuvwxyz" tl)))
    (aM : PySem.W.nsIn K mainGlobals "MAX_LETTERS" = some (some (.int 8 tm)))
    (aA : PySem.W.nsIn K mainGlobals "MAX_ARRAYS" = some (some (.int 12 ta)))
    (aP : PySem.W.nsIn K mainGlobals "MAX_POSITIONS" = some (some (.int 6 tp)))
    (aV : PySem.W.nsIn K mainGlobals "MAX_VALUES" = some (some (.int 6 tv)))
    (aO : PySem.W.nsIn K mainGlobals "MAX_OWN" = some (some (.int 2 to)))
    (aG : PySem.W.nsIn K mainGlobals "LIMIT" = some (some (.int lim ti)))
    (aD : PySem.W.nsIn K mainGlobals "MAX_DEPTH" = some (some (.int 12 td)))
    (aTO : PySem.W.nsIn K mainGlobals "OPS" = some (some (.ref TO)))
    (aTA : PySem.W.nsIn K mainGlobals "ATOMS" = some (some (.ref TA)))
    (tTO : K.lookup TO = some ⟨.type "tuple", odO, .seq #[.str "<=" o1, .str "<" o2, .str "==" o3] nO, slO⟩)
    (tTA : K.lookup TA = some ⟨.type "tuple", odA, .seq #[.str "pos" a1, .str "val" a2] nA, slA⟩)
    (z_isinstance : PySem.W.nsIn K mainGlobals "isinstance" = some none)
    (z_str : PySem.W.nsIn K mainGlobals "str" = some none)
    (z_tuple : PySem.W.nsIn K mainGlobals "tuple" = some none)
    (z_len : PySem.W.nsIn K mainGlobals "len" = some none)
    (z_all : PySem.W.nsIn K mainGlobals "all" = some none)
    (z_set : PySem.W.nsIn K mainGlobals "set" = some none)
    (z_int : PySem.W.nsIn K mainGlobals "int" = some none)
    (z_list : PySem.W.nsIn K mainGlobals "list" = some none)
    (z_range : PySem.W.nsIn K mainGlobals "range" = some none)
    (z_min : PySem.W.nsIn K mainGlobals "min" = some none)
    (z_max : PySem.W.nsIn K mainGlobals "max" = some none)
    (z_abs : PySem.W.nsIn K mainGlobals "abs" = some none)
    (z_repr : PySem.W.nsIn K mainGlobals "repr" = some none)
    (z_bool : PySem.W.nsIn K mainGlobals "bool" = some none)
    (z_sorted : PySem.W.nsIn K mainGlobals "sorted" = some none)
    : ∃ (fd : FuncData), (∀ (s : Shared) (u : Value), BindsTo s fd ⟨[u], []⟩ [("_law_script", u)]) ∧ ∀ base : Heap, K.In base → base.Ns mainGlobals mg → RunG P w K mg base 25 fa fd ["_law_script"] (spLaw K) := by
  have e := hfa.symm.trans (PySem.W.mg_of X G af48)
  cases e
  have gF := PySem.W.mg_of X G aC
  have gCI := PySem.W.mg_of X G aCI
  have m_isinstance := PySem.W.mg_none_of X G z_isinstance
  have m_str := PySem.W.mg_none_of X G z_str
  have m_tuple := PySem.W.mg_none_of X G z_tuple
  have m_len := PySem.W.mg_none_of X G z_len
  have m_all := PySem.W.mg_none_of X G z_all
  have m_set := PySem.W.mg_none_of X G z_set
  have m_int := PySem.W.mg_none_of X G z_int
  have m_list := PySem.W.mg_none_of X G z_list
  have m_range := PySem.W.mg_none_of X G z_range
  have m_min := PySem.W.mg_none_of X G z_min
  have m_max := PySem.W.mg_none_of X G z_max
  have m_abs := PySem.W.mg_none_of X G z_abs
  have m_repr := PySem.W.mg_none_of X G z_repr
  have m_bool := PySem.W.mg_none_of X G z_bool
  have m_sorted := PySem.W.mg_none_of X G z_sorted
  have mL := PySem.W.mg_of X G aL
  have mM := PySem.W.mg_of X G aM
  have mA := PySem.W.mg_of X G aA
  have mP := PySem.W.mg_of X G aP
  have mV := PySem.W.mg_of X G aV
  have mO := PySem.W.mg_of X G aO
  have mG := PySem.W.mg_of X G aG
  have mD := PySem.W.mg_of X G aD
  have mTO := PySem.W.mg_of X G aTO
  have mTA := PySem.W.mg_of X G aTA
  have kO : ∀ H, SqT K H TO (opsW.map V.str) := sqt3 tTO
  have kA : ∀ H, SqT K H TA (atmW.map V.str) := sqt2 tTA
  have g0 := PySem.W.mg_of X G af0
  have F0 := fun_mk (st := sWhole) lf0 cf0 kf0
  have b0 := F0.binds (ps := ["value"]) fun _ _ _ _ _ _ us hl => match us, hl with | [_], _ => rfl
  have g1 := PySem.W.mg_of X G af1
  have F1 := fun_mk (st := sIg) lf1 cf1 kf1
  have b1 := F1.binds (ps := ["value"]) fun _ _ _ _ _ _ us hl => match us, hl with | [_], _ => rfl
  have g2 := PySem.W.mg_of X G af2
  have F2 := fun_mk (st := sIsName) lf2 cf2 kf2
  have b2 := F2.binds (ps := ["value"]) fun _ _ _ _ _ _ us hl => match us, hl with | [_], _ => rfl
  have g3 := PySem.W.mg_of X G af3
  have F3 := fun_mk (st := sCf) lf3 cf3 kf3
  have b3 := F3.binds (ps := ["frame"]) fun _ _ _ _ _ _ us hl => match us, hl with | [_], _ => rfl
  have g4 := PySem.W.mg_of X G af4
  have F4 := fun_mk (st := sAreNames) lf4 cf4 kf4
  have b4 := F4.binds (ps := ["value", "most"]) fun _ _ _ _ _ _ us hl => match us, hl with | [_, _], _ => rfl
  have g5 := PySem.W.mg_of X G af5
  have F5 := fun_mk (st := sAreArrays) lf5 cf5 kf5
  have b5 := F5.binds (ps := ["value"]) fun _ _ _ _ _ _ us hl => match us, hl with | [_], _ => rfl
  have g6 := PySem.W.mg_of X G af6
  have F6 := fun_mk (st := sLengthsIn) lf6 cf6 kf6
  have b6 := F6.binds (ps := ["arrays"]) fun _ _ _ _ _ _ us hl => match us, hl with | [_], _ => rfl
  have g7 := PySem.W.mg_of X G af7
  have F7 := fun_mk (st := sWordsIn) lf7 cf7 kf7
  have b7 := F7.binds (ps := ["arrays", "positions", "values"]) fun _ _ _ _ _ _ us hl => match us, hl with | [_, _, _], _ => rfl
  have g8 := PySem.W.mg_of X G af8
  have F8 := fun_mk (st := sFrameOf) lf8 cf8 kf8
  have b8 := F8.binds (ps := ["arrays", "positions", "values"]) fun _ _ _ _ _ _ us hl => match us, hl with | [_, _, _], _ => rfl
  have g9 := PySem.W.mg_of X G af9
  have F9 := fun_mk (st := sPos) lf9 cf9 kf9
  have b9 := F9.binds (ps := ["frame", "value", "extra"]) fun _ _ _ _ _ _ us hl => match us, hl with | [_, _, _], _ => rfl
  have g10 := PySem.W.mg_of X G af10
  have F10 := fun_mk (st := sVal) lf10 cf10 kf10
  have b10 := F10.binds (ps := ["frame", "value", "extra"]) fun _ _ _ _ _ _ us hl => match us, hl with | [_, _, _], _ => rfl
  have g11 := PySem.W.mg_of X G af11
  have F11 := fun_mk (st := sWd) lf11 cf11 kf11
  have b11 := F11.binds (ps := ["value"]) fun _ _ _ _ _ _ us hl => match us, hl with | [_], _ => rfl
  have g12 := PySem.W.mg_of X G af12
  have F12 := fun_mk (st := sAtm) lf12 cf12 kf12
  have b12 := F12.binds (ps := ["frame", "value", "own"]) fun _ _ _ _ _ _ us hl => match us, hl with | [_, _, _], _ => rfl
  have g13 := PySem.W.mg_of X G af13
  have F13 := fun_mk (st := sPt) lf13 cf13 kf13
  have b13 := F13.binds (ps := ["value"]) fun _ _ _ _ _ _ us hl => match us, hl with | [_], _ => rfl
  have g14 := PySem.W.mg_of X G af14
  have F14 := fun_mk (st := sFm) lf14 cf14 kf14
  have b14 := F14.binds (ps := ["frame", "value", "depth"]) fun _ _ _ _ _ _ us hl => match us, hl with | [_, _, _], _ => rfl
  have g15 := PySem.W.mg_of X G af15
  have F15 := fun_mk (st := sAf) lf15 cf15 kf15
  have b15 := F15.binds (ps := ["frame", "value", "depth"]) fun _ _ _ _ _ _ us hl => match us, hl with | [_, _, _], _ => rfl
  have g16 := PySem.W.mg_of X G af16
  have F16 := fun_mk (st := sGd) lf16 cf16 kf16
  have b16 := F16.binds (ps := ["frame", "value", "own", "depth"]) fun _ _ _ _ _ _ us hl => match us, hl with | [_, _, _, _], _ => rfl
  have g17 := PySem.W.mg_of X G af17
  have F17 := fun_mk (st := sGa) lf17 cf17 kf17
  have b17 := F17.binds (ps := ["atom", "own"]) fun _ _ _ _ _ _ us hl => match us, hl with | [_, _], _ => rfl
  have g18 := PySem.W.mg_of X G af18
  have F18 := fun_mk (st := sBd) lf18 cf18 kf18
  have b18 := F18.binds (ps := ["frame", "value", "own", "depth"]) fun _ _ _ _ _ _ us hl => match us, hl with | [_, _, _, _], _ => rfl
  have g19 := PySem.W.mg_of X G af19
  have F19 := fun_mk (st := sOu) lf19 cf19 kf19
  have b19 := F19.binds (ps := ["term", "own"]) fun _ _ _ _ _ _ us hl => match us, hl with | [_, _], _ => rfl
  have g20 := PySem.W.mg_of X G af20
  have F20 := fun_mk (st := sAi) lf20 cf20 kf20
  have b20 := F20.binds (ps := ["claim"]) fun _ _ _ _ _ _ us hl => match us, hl with | [_], _ => rfl
  have g21 := PySem.W.mg_of X G af21
  have F21 := fun_mk (st := sIc) lf21 cf21 kf21
  have b21 := F21.binds (ps := ["frame", "value"]) fun _ _ _ _ _ _ us hl => match us, hl with | [_, _], _ => rfl
  have g22 := PySem.W.mg_of X G af22
  have F22 := fun_mk (st := sCc) lf22 cf22 kf22
  have b22 := F22.binds (ps := ["frame", "claim"]) fun _ _ _ _ _ _ us hl => match us, hl with | [_, _], _ => rfl
  have g23 := PySem.W.mg_of X G af23
  have F23 := fun_mk (st := sNo) lf23 cf23 kf23
  have b23 := F23.binds (ps := ["frame", "claim"]) fun _ _ _ _ _ _ us hl => match us, hl with | [_, _], _ => rfl
  have g24 := PySem.W.mg_of X G af24
  have F24 := fun_mk (st := sCreel) lf24 cf24 kf24
  have b24 := F24.binds (ps := ["_law_script", "_law_at"]) fun _ _ _ _ _ _ us hl => match us, hl with | [_, _], _ => rfl
  have g25 := PySem.W.mg_of X G af25
  have F25 := fun_mk (st := sFish) lf25 cf25 kf25
  have b25 := F25.binds (ps := ["_law_creel_here", "_law_total"]) fun _ _ _ _ _ _ us hl => match us, hl with | [_, _], _ => rfl
  have g26 := PySem.W.mg_of X G af26
  have F26 := fun_mk (st := sOne) lf26 cf26 kf26
  have b26 := F26.binds (ps := ["_law_creel_here", "_law_items"]) fun _ _ _ _ _ _ us hl => match us, hl with | [_, _], _ => rfl
  have g27 := PySem.W.mg_of X G af27
  have F27 := fun_mk (st := sFew) lf27 cf27 kf27
  have b27 := F27.binds (ps := ["_law_creel_here", "_law_items", "_law_count"]) fun _ _ _ _ _ _ us hl => match us, hl with | [_, _, _], _ => rfl
  have g28 := PySem.W.mg_of X G af28
  have F28 := fun_mk (st := sPts) lf28 cf28 kf28
  have b28 := F28.binds (ps := ["_law_creel_here"]) fun _ _ _ _ _ _ us hl => match us, hl with | [_], _ => rfl
  have g29 := PySem.W.mg_of X G af29
  have F29 := fun_mk (st := sLens) lf29 cf29 kf29
  have b29 := F29.binds (ps := ["_law_parts_here"]) fun _ _ _ _ _ _ us hl => match us, hl with | [_], _ => rfl
  have g30 := PySem.W.mg_of X G af30
  have F30 := fun_mk (st := sFrame) lf30 cf30 kf30
  have b30 := F30.binds (ps := ["_law_parts_here"]) fun _ _ _ _ _ _ us hl => match us, hl with | [_], _ => rfl
  have g31 := PySem.W.mg_of X G af31
  have F31 := fun_mk (st := sAll) lf31 cf31 kf31
  have b31 := F31.binds (ps := ["_law_parts_here"]) fun _ _ _ _ _ _ us hl => match us, hl with | [_], _ => rfl
  have g32 := PySem.W.mg_of X G af32
  have F32 := fun_mk (st := sPlc) lf32 cf32 kf32
  have b32 := F32.binds (ps := ["_law_creel_here", "_law_parts_here", "_law_own"]) fun _ _ _ _ _ _ us hl => match us, hl with | [_, _, _], _ => rfl
  have g33 := PySem.W.mg_of X G af33
  have F33 := fun_mk (st := sWth) lf33 cf33 kf33
  have b33 := F33.binds (ps := ["_law_creel_here", "_law_parts_here", "_law_own"]) fun _ _ _ _ _ _ us hl => match us, hl with | [_, _, _], _ => rfl
  have g34 := PySem.W.mg_of X G af34
  have F34 := fun_mk (st := sOwn) lf34 cf34 kf34
  have b34 := F34.binds (ps := ["_law_creel_here", "_law_parts_here"]) fun _ _ _ _ _ _ us hl => match us, hl with | [_, _], _ => rfl
  have g35 := PySem.W.mg_of X G af35
  have F35 := fun_mk (st := sGu) lf35 cf35 kf35
  have b35 := F35.binds (ps := ["_law_creel_here", "_law_parts_here", "_law_own", "_law_deep"]) fun _ _ _ _ _ _ us hl => match us, hl with | [_, _, _, _], _ => rfl
  have g36 := PySem.W.mg_of X G af36
  have F36 := fun_mk (st := sBo) lf36 cf36 kf36
  have b36 := F36.binds (ps := ["_law_creel_here", "_law_parts_here", "_law_own", "_law_deep"]) fun _ _ _ _ _ _ us hl => match us, hl with | [_, _, _, _], _ => rfl
  have g37 := PySem.W.mg_of X G af37
  have F37 := fun_mk (st := sAl) lf37 cf37 kf37
  have b37 := F37.binds (ps := ["_law_creel_here", "_law_parts_here"]) fun _ _ _ _ _ _ us hl => match us, hl with | [_, _], _ => rfl
  have g38 := PySem.W.mg_of X G af38
  have F38 := fun_mk (st := sCl) lf38 cf38 kf38
  have b38 := F38.binds (ps := ["_law_creel_here", "_law_parts_here", "_law_deep"]) fun _ _ _ _ _ _ us hl => match us, hl with | [_, _, _], _ => rfl
  have g39 := PySem.W.mg_of X G af39
  have F39 := fun_mk (st := sIo) lf39 cf39 kf39
  have b39 := F39.binds (ps := ["_law_parts_here", "_law_value"]) fun _ _ _ _ _ _ us hl => match us, hl with | [_, _], _ => rfl
  have g40 := PySem.W.mg_of X G af40
  have F40 := fun_mk (st := sTm) lf40 cf40 kf40
  have b40 := F40.binds (ps := ["_law_names_here", "_law_value"]) fun _ _ _ _ _ _ us hl => match us, hl with | [_, _], _ => rfl
  have g41 := PySem.W.mg_of X G af41
  have F41 := fun_mk (st := sAm) lf41 cf41 kf41
  have b41 := F41.binds (ps := ["_law_parts_here", "_law_own", "_law_value"]) fun _ _ _ _ _ _ us hl => match us, hl with | [_, _, _], _ => rfl
  have g42 := PySem.W.mg_of X G af42
  have F42 := fun_mk (st := sFi) lf42 cf42 kf42
  have b42 := F42.binds (ps := ["_law_parts_here", "_law_own", "_law_kind", "_law_value"]) fun _ _ _ _ _ _ us hl => match us, hl with | [_, _, _, _], _ => rfl
  have g43 := PySem.W.mg_of X G af43
  have F43 := fun_mk (st := sDp) lf43 cf43 kf43
  have b43 := F43.binds (ps := ["_law_value"]) fun _ _ _ _ _ _ us hl => match us, hl with | [_], _ => rfl
  have g44 := PySem.W.mg_of X G af44
  have F44 := fun_mk (st := sLn) lf44 cf44 kf44
  have b44 := F44.binds (ps := ["_law_parts_here", "_law_value"]) fun _ _ _ _ _ _ us hl => match us, hl with | [_, _], _ => rfl
  have g45 := PySem.W.mg_of X G af45
  have F45 := fun_mk (st := sOd) lf45 cf45 kf45
  have b45 := F45.binds (ps := ["_law_creel_here", "_law_parts_here"]) fun _ _ _ _ _ _ us hl => match us, hl with | [_, _], _ => rfl
  have g46 := PySem.W.mg_of X G af46
  have F46 := fun_mk (st := sBe) lf46 cf46 kf46
  have b46 := F46.binds (ps := ["_law_creel_here", "_law_parts_here", "_law_value"]) fun _ _ _ _ _ _ us hl => match us, hl with | [_, _, _], _ => rfl
  have g47 := PySem.W.mg_of X G af47
  have F47 := fun_mk (st := sRi) lf47 cf47 kf47
  have b47 := F47.binds (ps := ["_law_creel_here"]) fun _ _ _ _ _ _ us hl => match us, hl with | [_], _ => rfl
  have g48 := PySem.W.mg_of X G af48
  have F48 := fun_mk (st := sLaw) lf48 cf48 kf48
  have b48 := F48.binds (ps := ["_law_script"]) fun _ _ _ _ _ _ us hl => match us, hl with | [_], _ => rfl
  have FI0 := fun_mk (st := sInit) lI0 cI0 kI0
  have bI0 := FI0.binds (ps := ["self", "arrays", "positions", "values"]) fun _ _ _ _ _ _ us hl => match us, hl with | [_, _, _, _], _ => rfl
  have FI1 := fun_mk (st := sHas) lI1 cI1 kI1
  have bI1 := FI1.binds (ps := ["self", "value", "kinds"]) fun _ _ _ _ _ _ us hl => match us, hl with | [_, _, _], _ => rfl
  have FI2 := fun_mk (st := sFresh) lI2 cI2 kI2
  have bI2 := FI2.binds (ps := ["self", "value"]) fun _ _ _ _ _ _ us hl => match us, hl with | [_, _], _ => rfl
  have FI3 := fun_mk (st := sIn) lI3 cI3 kI3
  have bI3 := FI3.binds (ps := ["self", "value"]) fun _ _ _ _ _ _ us hl => match us, hl with | [_, _], _ => rfl
  have B : Free mg := ⟨m_isinstance, m_str, m_tuple, m_len, m_all, m_set, m_int, m_list, m_range⟩
  have T : FrTxt K mg C := ⟨⟨cPg, cHd, cPo, cSa⟩, fun f hf => (show PySem.W.findIn K (.ref C) f = some none from of_decide_eq_true (List.all_eq_true.mp cNo f hf))⟩
  have S : FrIs K mg C := ⟨gF, iHa, iHn, iHt, iHm, iKt, iKl⟩
  have MPCI : MkP K mg "InvalidFrame" CI := ⟨xOvCI, gCI, xKpCI, xBeCI, xTyCI⟩
  refine ⟨PySem.W.fnOf "law" "law" (defArgs sLaw) (defBody sLaw) (defScope sLaw) .none kV48 dc48 pm48 an48 cd48 ct48, fun s u => .of_eq rfl, fun base _ _ => ?_⟩
  have whole : Fnc P w K mg base CX0 1 "is_whole" ["value"] spWhole := ⟨⟨f0, _, ok_whole F0 B m_bool, b0, g0, F0.kp⟩⟩
  have ig : Fnc P w K mg base CX0 2 "is_integer" ["value"] spIg := ⟨⟨f1, _, ok_ig F1 whole mG, b1, g1, F1.kp⟩⟩
  have isn : Fnc P w K mg base CX0 1 "is_name" ["value"] (spName K) := ⟨⟨f2, _, ok_isName F2 m_isinstance m_str m_len m_all mL mM, b2, g2, F2.kp⟩⟩
  have names : Fnc P w K mg base CX0 2 "are_names" ["value", "most"] spNames := ⟨⟨f4, _, ok_names F4 isn B, b4, g4, F4.kp⟩⟩
  have arrs : Fnc P w K mg base CX0 3 "are_arrays" ["value"] spArrays := ⟨⟨f5, _, ok_arrays F5 names B mA, b5, g5, F5.kp⟩⟩
  have lens : Fnc P w K mg base CX0 1 "lengths_in" ["arrays"] spLens := ⟨⟨f6, _, ok_lens F6 B, b6, g6, F6.kp⟩⟩
  have words : Fnc P w K mg base CX0 2 "words_in" ["arrays", "positions", "values"] spWords := ⟨⟨f7, _, ok_words F7 lens B, b7, g7, F7.kp⟩⟩
  have fof : Fnc P w K mg base CX0 4 "is_frame_of" ["arrays", "positions", "values"] spFrameOf := ⟨⟨f8, _, ok_frameOf F8 arrs names words B mP mV, b8, g8, F8.kp⟩⟩
  have o_isIn : OM P w K mg base CX0 1 C "__contains__" ["self", "value"] (spIn C) := ⟨⟨I3, _, ⟨aI3, nI3⟩, kI3, ok_in FI3 T B, bI3⟩⟩
  have o_fresh : OM P w K mg base CX0 2 C "is_fresh" ["self", "value"] (spFresh C) := ⟨⟨I2, _, ⟨aI2, nI2⟩, kI2, ok_fresh FI2 isn o_isIn, bI2⟩⟩
  have o_has : OM P w K mg base CX0 1 C "has_kind" ["self", "value", "kinds"] (spHas C) := ⟨⟨I1, _, ⟨aI1, nI1⟩, kI1, ok_has FI1 T B, bI1⟩⟩
  have cf : Fnc P w K mg base CX0 1 "check_frame" ["frame"] (spCf C) := ⟨⟨f3, _, ok_cf F3 T S B, b3, g3, F3.kp⟩⟩
  have pos : Fnc P w K mg base CX0 3 "is_position_over" ["frame", "value", "extra"] (spPos K C) := ⟨⟨f9, _, ok_pos F9 T B ig o_has, b9, g9, F9.kp⟩⟩
  have val : Fnc P w K mg base CX0 4 "is_value_over" ["frame", "value", "extra"] (spVal K C) := ⟨⟨f10, _, ok_val F10 T B ig o_has pos, b10, g10, F10.kp⟩⟩
  have wd : Fnc P w K mg base CX0 1 "is_worded" ["value"] spWd := ⟨⟨f11, _, ok_wd F11 B, b11, g11, F11.kp⟩⟩
  have pt : Fnc P w K mg base CX0 1 "has_parts" ["value"] spPt := ⟨⟨f13, _, ok_hasPt F13 B, b13, g13, F13.kp⟩⟩
  have atm : Fnc P w K mg base CX0 5 "is_atom" ["frame", "value", "own"] (spAtm K C) := ⟨⟨f12, _, ok_atm F12 B mTO kO pos val, b12, g12, F12.kp⟩⟩
  have ga : Fnc P w K mg base CX0 1 "is_guard_atom" ["atom", "own"] (spGa K) := ⟨⟨f17, _, ok_ga F17 B, b17, g17, F17.kp⟩⟩
  have ou : Fnc P w K mg base CX0 1 "has_own_unshifted" ["term", "own"] (spOu K) := ⟨⟨f19, _, ok_ou F19 B, b19, g19, F19.kp⟩⟩
  have gd : ∀ n, Fnc P w K mg base CX0 (6 + n) "is_guard" ["frame", "value", "own", "depth"] (spGd K C n) := fun n => ⟨⟨f16, _, ok_gd F16 b16 g16 B wd pt atm ga n, b16, g16, F16.kp⟩⟩
  have bd : ∀ n, Fnc P w K mg base CX0 (6 + n) "is_body" ["frame", "value", "own", "depth"] (spBd K C n) := fun n => ⟨⟨f18, _, ok_bd F18 b18 g18 B wd pt atm ou n, b18, g18, F18.kp⟩⟩
  have af : ∀ n, Fnc P w K mg base CX0 (7 + n) "is_all_form" ["frame", "value", "depth"] (spAf C n) := fun n => ⟨⟨f15, _, ok_af n F15 T B mO names o_fresh (gd n) (bd n), b15, g15, F15.kp⟩⟩
  have fm : ∀ n, Fnc P w K mg base CX0 (8 + n) "is_form" ["frame", "value", "depth"] (spFm C n) := fun n => ⟨⟨f14, _, ok_fm F14 b14 g14 B mTA kA wd pt atm af n, b14, g14, F14.kp⟩⟩
  have ic : Fnc P w K mg base CX0 21 "is_claim" ["frame", "value"] (spIc C) := ⟨⟨f21, _, ok_ic F21 cf (fm 12) mD, b21, g21, F21.kp⟩⟩
  have cc : Fnc P w K mg base CX0 22 "check_claim" ["frame", "claim"] (spCc C) := ⟨⟨f22, _, ok_cc F22 ic, b22, g22, F22.kp⟩⟩
  have ai : ∀ n, Fnc P w K mg base CX0 (1 + n) "atoms_in" ["claim"] (spAi n) := fun n => ⟨⟨f20, _, ok_ai F20 b20 g20 mTA kA rfl n, b20, g20, F20.kp⟩⟩
  have no : Fnc P w K mg base CX0 23 "names_of" ["frame", "claim"] (spNo C) := ⟨⟨f23, _, ok_no F23 B m_sorted cc (ai 12) o_isIn, b23, g23, F23.kp⟩⟩
  have creel : Fnc P w K mg base CX0 1 "_law_creel" ["_law_script", "_law_at"] (spCreel K) := ⟨⟨f24, _, ok_creel F24 m_len m_int m_abs m_max, b24, g24, F24.kp⟩⟩
  have fish : Fnc P w K mg base CX0 1 "_law_fish" ["_law_creel_here", "_law_total"] spFish := ⟨⟨f25, _, ok_fish F25 m_int, b25, g25, F25.kp⟩⟩
  have one : Fnc P w K mg base CX0 2 "_law_one_of" ["_law_creel_here", "_law_items"] spOne := ⟨⟨f26, _, ok_one F26 F25 b25 g25 m_int m_len, b26, g26, F26.kp⟩⟩
  have oneT : Fnc P w K mg base CX0 2 "_law_one_of" ["_law_creel_here", "_law_items"] spOneT := ⟨⟨f26, _, ok_oneT F26 fish B, b26, g26, F26.kp⟩⟩
  have few0 : Fnc P w K mg base CX0 2 "_law_few_of" ["_law_creel_here", "_law_items", "_law_count"] spFew := ⟨⟨f27, _, ok_few F27 fish B m_min, b27, g27, F27.kp⟩⟩
  have fewM : Fnc P w K mg base CX0 2 "_law_few_of" ["_law_creel_here", "_law_items", "_law_count"] spFewM := ⟨⟨f27, _, ok_fewM F27 fish B m_min, b27, g27, F27.kp⟩⟩
  have pts : Fnc P w K mg base CX0 3 "_law_parts" ["_law_creel_here"] spPts := ⟨⟨f28, _, ok_pts F28 few0 fish B, b28, g28, F28.kp⟩⟩
  have lens2 : Fnc P w K mg base CX0 1 "_law_lengths" ["_law_parts_here"] spLens2 := ⟨⟨f29, _, ok_lens2 F29, b29, g29, F29.kp⟩⟩
  have allOf : Fnc P w K mg base CX0 2 "_law_all_of" ["_law_parts_here"] spAll := ⟨⟨f31, _, ok_all F31 lens2 B, b31, g31, F31.kp⟩⟩
  have mkf : MkF P w K mg base C CI := ⟨gF, I0, _, ⟨cMk, aI0, nI0, cKp⟩, ok_init FI0 T MPCI fof lens, bI0⟩
  have frame : Fnc P w K mg base CX0 7 "_law_frame" ["_law_parts_here"] (spFrame C) := ⟨⟨f30, _, ok_frame F30 mkf, b30, g30, F30.kp⟩⟩
  have plc : Fnc P w K mg base CX0 3 "_law_place" ["_law_creel_here", "_law_parts_here", "_law_own"] spPlc := ⟨⟨f32, _, ok_plc F32 B lens2 one, b32, g32, F32.kp⟩⟩
  have wth : Fnc P w K mg base CX0 4 "_law_worth" ["_law_creel_here", "_law_parts_here", "_law_own"] spWth := ⟨⟨f33, _, ok_wth F33 B fish one oneT plc, b33, g33, F33.kp⟩⟩
  have own : Fnc P w K mg base CX0 3 "_law_own_drawn" ["_law_creel_here", "_law_parts_here"] spOwn := ⟨⟨f34, _, ok_own F34 B fish fewM allOf, b34, g34, F34.kp⟩⟩
  have gu : ∀ n, Fnc P w K mg base CX0 (4 + n) "_law_guard" ["_law_creel_here", "_law_parts_here", "_law_own", "_law_deep"] (spGu n) := fun n => ⟨⟨f35, _, ok_gu F35 b35 g35 B fish one oneT plc n, b35, g35, F35.kp⟩⟩
  have bo : ∀ n, Fnc P w K mg base CX0 (5 + n) "_law_body" ["_law_creel_here", "_law_parts_here", "_law_own", "_law_deep"] (spBo n) := fun n => ⟨⟨f36, _, ok_bo F36 b36 g36 B fish one wth n, b36, g36, F36.kp⟩⟩
  have al : Fnc P w K mg base CX0 7 "_law_all" ["_law_creel_here", "_law_parts_here"] spAl := ⟨⟨f37, _, ok_al F37 own (gu 1) (bo 1), b37, g37, F37.kp⟩⟩
  have cl : ∀ n, Fnc P w K mg base CX0 (8 + n) "_law_claim" ["_law_creel_here", "_law_parts_here", "_law_deep"] (spCl n) := fun n => ⟨⟨f38, _, ok_cl F38 b38 g38 B fish one (bo 0) plc al n, b38, g38, F38.kp⟩⟩
  have io : Fnc P w K mg base CX0 3 "_law_is_own" ["_law_parts_here", "_law_value"] spIo := ⟨⟨f39, _, ok_io F39 B allOf, b39, g39, F39.kp⟩⟩
  have tm : Fnc P w K mg base CX0 1 "_law_is_term" ["_law_names_here", "_law_value"] spTm := ⟨⟨f40, _, ok_tm F40 B m_bool m_abs, b40, g40, F40.kp⟩⟩
  have am : Fnc P w K mg base CX0 2 "_law_is_amount" ["_law_parts_here", "_law_own", "_law_value"] spAm := ⟨⟨f41, _, ok_am F41 B lens2 tm, b41, g41, F41.kp⟩⟩
  have fi : ∀ n, Fnc P w K mg base CX0 (4 + n) "_law_fits" ["_law_parts_here", "_law_own", "_law_kind", "_law_value"] (spFi n) := fun n => ⟨⟨f42, _, ok_fi F42 b42 g42 B lens2 tm am io n, b42, g42, F42.kp⟩⟩
  have dp : ∀ n, Fnc P w K mg base CX0 (1 + n) "_law_depth" ["_law_value"] (spDp n) := fun n => ⟨⟨f43, _, ok_dp F43 b43 g43 B m_max n, b43, g43, F43.kp⟩⟩
  have ln : ∀ n, Fnc P w K mg base CX0 (3 + n) "_law_names" ["_law_parts_here", "_law_value"] (spLn n) := fun n => ⟨⟨f44, _, ok_ln F44 b44 g44 B allOf n, b44, g44, F44.kp⟩⟩
  have od : Fnc P w K mg base CX0 3 "_law_odd" ["_law_creel_here", "_law_parts_here"] spOd := ⟨⟨f45, _, ok_od F45 B one allOf, b45, g45, F45.kp⟩⟩
  have be : ∀ n, Fnc P w K mg base CX0 (4 + n) "_law_bent" ["_law_creel_here", "_law_parts_here", "_law_value"] (spBe n) := fun n => ⟨⟨f46, _, ok_be F46 b46 g46 B fish one od n, b46, g46, F46.kp⟩⟩
  have rg : RG P w K mg base C := ⟨B, m_sorted, m_repr, pts, frame, cl, no, ln 12, fi 12, ic, be 7, dp 12, one⟩
  have right : FncG P w K mg base 24 "_law_right" ["_law_creel_here"] spRi := ⟨⟨f47, _, ok_ri F47 rg, b47, g47, F47.kp⟩⟩
  exact ok_law F48 (show LG P w K mg base from ⟨B, m_max, m_min, creel, right⟩)
end K03

open PySem PySem.W PyProof.Rows
set_option maxRecDepth 100000 in
set_option maxHeartbeats 0 in
theorem PySem.Challenge.cw_lentcells_k03_claims_judged_holds : PySem.Challenge.rw_lentcells_k03_claims_judged.Holds := by
  w_on; o_law; k_head; (case hw => w_witness2)
  k_fill
  refine K03.walk (l := PySem.Challenge.rw_lentcells_k03_claims_judged) rfl rfl (fun w h Y => PySem.W.kIn_of Y) ?F
  case F =>
    intro w mg fa h KX G hmg
    refine' K03.all_mk KX G hmg ?aC ?aCI ?af0 ?lf0 ?cf0 ?kf0 ?af1 ?lf1 ?cf1 ?kf1 ?af2 ?lf2 ?cf2 ?kf2 ?af3 ?lf3 ?cf3 ?kf3 ?af4 ?lf4 ?cf4 ?kf4 ?af5 ?lf5 ?cf5 ?kf5 ?af6 ?lf6 ?cf6 ?kf6 ?af7 ?lf7 ?cf7 ?kf7 ?af8 ?lf8 ?cf8 ?kf8 ?af9 ?lf9 ?cf9 ?kf9 ?af10 ?lf10 ?cf10 ?kf10 ?af11 ?lf11 ?cf11 ?kf11 ?af12 ?lf12 ?cf12 ?kf12 ?af13 ?lf13 ?cf13 ?kf13 ?af14 ?lf14 ?cf14 ?kf14 ?af15 ?lf15 ?cf15 ?kf15 ?af16 ?lf16 ?cf16 ?kf16 ?af17 ?lf17 ?cf17 ?kf17 ?af18 ?lf18 ?cf18 ?kf18 ?af19 ?lf19 ?cf19 ?kf19 ?af20 ?lf20 ?cf20 ?kf20 ?af21 ?lf21 ?cf21 ?kf21 ?af22 ?lf22 ?cf22 ?kf22 ?af23 ?lf23 ?cf23 ?kf23 ?af24 ?lf24 ?cf24 ?kf24 ?af25 ?lf25 ?cf25 ?kf25 ?af26 ?lf26 ?cf26 ?kf26 ?af27 ?lf27 ?cf27 ?kf27 ?af28 ?lf28 ?cf28 ?kf28 ?af29 ?lf29 ?cf29 ?kf29 ?af30 ?lf30 ?cf30 ?kf30 ?af31 ?lf31 ?cf31 ?kf31 ?af32 ?lf32 ?cf32 ?kf32 ?af33 ?lf33 ?cf33 ?kf33 ?af34 ?lf34 ?cf34 ?kf34 ?af35 ?lf35 ?cf35 ?kf35 ?af36 ?lf36 ?cf36 ?kf36 ?af37 ?lf37 ?cf37 ?kf37 ?af38 ?lf38 ?cf38 ?kf38 ?af39 ?lf39 ?cf39 ?kf39 ?af40 ?lf40 ?cf40 ?kf40 ?af41 ?lf41 ?cf41 ?kf41 ?af42 ?lf42 ?cf42 ?kf42 ?af43 ?lf43 ?cf43 ?kf43 ?af44 ?lf44 ?cf44 ?kf44 ?af45 ?lf45 ?cf45 ?kf45 ?af46 ?lf46 ?cf46 ?kf46 ?af47 ?lf47 ?cf47 ?kf47 ?af48 ?lf48 ?cf48 ?kf48 ?aI0 ?lI0 ?cI0 ?kI0 ?nI0 ?aI1 ?lI1 ?cI1 ?kI1 ?nI1 ?aI2 ?lI2 ?cI2 ?kI2 ?nI2 ?aI3 ?lI3 ?cI3 ?kI3 ?nI3 ?cPg ?cHd ?cPo ?cSa ?cNo ?cMk ?cKp ?xOvCI ?xKpCI ?xBeCI ?xTyCI ?iHa ?iHn ?iHt ?iHm ?iKt ?iKl ?aL ?aM ?aA ?aP ?aV ?aO ?aG ?aD ?aTO ?aTA ?tTO ?tTA ?z_isinstance ?z_str ?z_tuple ?z_len ?z_all ?z_set ?z_int ?z_list ?z_range ?z_min ?z_max ?z_abs ?z_repr ?z_bool ?z_sorted
    (case aC => k_is)
    (case aCI => k_is)
    (case af0 => k_is)
    (case lf0 => k_is)
    (case cf0 => k_is)
    (case kf0 => k_is)
    (case af1 => k_is)
    (case lf1 => k_is)
    (case cf1 => k_is)
    (case kf1 => k_is)
    (case af2 => k_is)
    (case lf2 => k_is)
    (case cf2 => k_is)
    (case kf2 => k_is)
    (case af3 => k_is)
    (case lf3 => k_is)
    (case cf3 => k_is)
    (case kf3 => k_is)
    (case af4 => k_is)
    (case lf4 => k_is)
    (case cf4 => k_is)
    (case kf4 => k_is)
    (case af5 => k_is)
    (case lf5 => k_is)
    (case cf5 => k_is)
    (case kf5 => k_is)
    (case af6 => k_is)
    (case lf6 => k_is)
    (case cf6 => k_is)
    (case kf6 => k_is)
    (case af7 => k_is)
    (case lf7 => k_is)
    (case cf7 => k_is)
    (case kf7 => k_is)
    (case af8 => k_is)
    (case lf8 => k_is)
    (case cf8 => k_is)
    (case kf8 => k_is)
    (case af9 => k_is)
    (case lf9 => k_is)
    (case cf9 => k_is)
    (case kf9 => k_is)
    (case af10 => k_is)
    (case lf10 => k_is)
    (case cf10 => k_is)
    (case kf10 => k_is)
    (case af11 => k_is)
    (case lf11 => k_is)
    (case cf11 => k_is)
    (case kf11 => k_is)
    (case af12 => k_is)
    (case lf12 => k_is)
    (case cf12 => k_is)
    (case kf12 => k_is)
    (case af13 => k_is)
    (case lf13 => k_is)
    (case cf13 => k_is)
    (case kf13 => k_is)
    (case af14 => k_is)
    (case lf14 => k_is)
    (case cf14 => k_is)
    (case kf14 => k_is)
    (case af15 => k_is)
    (case lf15 => k_is)
    (case cf15 => k_is)
    (case kf15 => k_is)
    (case af16 => k_is)
    (case lf16 => k_is)
    (case cf16 => k_is)
    (case kf16 => k_is)
    (case af17 => k_is)
    (case lf17 => k_is)
    (case cf17 => k_is)
    (case kf17 => k_is)
    (case af18 => k_is)
    (case lf18 => k_is)
    (case cf18 => k_is)
    (case kf18 => k_is)
    (case af19 => k_is)
    (case lf19 => k_is)
    (case cf19 => k_is)
    (case kf19 => k_is)
    (case af20 => k_is)
    (case lf20 => k_is)
    (case cf20 => k_is)
    (case kf20 => k_is)
    (case af21 => k_is)
    (case lf21 => k_is)
    (case cf21 => k_is)
    (case kf21 => k_is)
    (case af22 => k_is)
    (case lf22 => k_is)
    (case cf22 => k_is)
    (case kf22 => k_is)
    (case af23 => k_is)
    (case lf23 => k_is)
    (case cf23 => k_is)
    (case kf23 => k_is)
    (case af24 => k_is)
    (case lf24 => k_is)
    (case cf24 => k_is)
    (case kf24 => k_is)
    (case af25 => k_is)
    (case lf25 => k_is)
    (case cf25 => k_is)
    (case kf25 => k_is)
    (case af26 => k_is)
    (case lf26 => k_is)
    (case cf26 => k_is)
    (case kf26 => k_is)
    (case af27 => k_is)
    (case lf27 => k_is)
    (case cf27 => k_is)
    (case kf27 => k_is)
    (case af28 => k_is)
    (case lf28 => k_is)
    (case cf28 => k_is)
    (case kf28 => k_is)
    (case af29 => k_is)
    (case lf29 => k_is)
    (case cf29 => k_is)
    (case kf29 => k_is)
    (case af30 => k_is)
    (case lf30 => k_is)
    (case cf30 => k_is)
    (case kf30 => k_is)
    (case af31 => k_is)
    (case lf31 => k_is)
    (case cf31 => k_is)
    (case kf31 => k_is)
    (case af32 => k_is)
    (case lf32 => k_is)
    (case cf32 => k_is)
    (case kf32 => k_is)
    (case af33 => k_is)
    (case lf33 => k_is)
    (case cf33 => k_is)
    (case kf33 => k_is)
    (case af34 => k_is)
    (case lf34 => k_is)
    (case cf34 => k_is)
    (case kf34 => k_is)
    (case af35 => k_is)
    (case lf35 => k_is)
    (case cf35 => k_is)
    (case kf35 => k_is)
    (case af36 => k_is)
    (case lf36 => k_is)
    (case cf36 => k_is)
    (case kf36 => k_is)
    (case af37 => k_is)
    (case lf37 => k_is)
    (case cf37 => k_is)
    (case kf37 => k_is)
    (case af38 => k_is)
    (case lf38 => k_is)
    (case cf38 => k_is)
    (case kf38 => k_is)
    (case af39 => k_is)
    (case lf39 => k_is)
    (case cf39 => k_is)
    (case kf39 => k_is)
    (case af40 => k_is)
    (case lf40 => k_is)
    (case cf40 => k_is)
    (case kf40 => k_is)
    (case af41 => k_is)
    (case lf41 => k_is)
    (case cf41 => k_is)
    (case kf41 => k_is)
    (case af42 => k_is)
    (case lf42 => k_is)
    (case cf42 => k_is)
    (case kf42 => k_is)
    (case af43 => k_is)
    (case lf43 => k_is)
    (case cf43 => k_is)
    (case kf43 => k_is)
    (case af44 => k_is)
    (case lf44 => k_is)
    (case cf44 => k_is)
    (case kf44 => k_is)
    (case af45 => k_is)
    (case lf45 => k_is)
    (case cf45 => k_is)
    (case kf45 => k_is)
    (case af46 => k_is)
    (case lf46 => k_is)
    (case cf46 => k_is)
    (case kf46 => k_is)
    (case af47 => k_is)
    (case lf47 => k_is)
    (case cf47 => k_is)
    (case kf47 => k_is)
    (case af48 => k_is)
    (case lf48 => k_is)
    (case cf48 => k_is)
    (case kf48 => k_is)
    (case aI0 => k_is)
    (case lI0 => k_is)
    (case cI0 => k_is)
    (case kI0 => k_is)
    (case nI0 => k_is)
    (case aI1 => k_is)
    (case lI1 => k_is)
    (case cI1 => k_is)
    (case kI1 => k_is)
    (case nI1 => k_is)
    (case aI2 => k_is)
    (case lI2 => k_is)
    (case cI2 => k_is)
    (case kI2 => k_is)
    (case nI2 => k_is)
    (case aI3 => k_is)
    (case lI3 => k_is)
    (case cI3 => k_is)
    (case kI3 => k_is)
    (case nI3 => k_is)
    (case cPg => kernel_rfl)
    (case cHd => kernel_rfl)
    (case cPo => kernel_rfl)
    (case cSa => k_is)
    (case cNo => kernel_rfl)
    (case cMk => kernel_rfl)
    (case cKp => k_is)
    (case xOvCI => kernel_rfl)
    (case xKpCI => k_is)
    (case xBeCI => k_is)
    (case xTyCI => k_is)
    (case iHa => k_is)
    (case iHn => k_is)
    (case iHt => k_is)
    (case iHm => k_is)
    (case iKt => kernel_rfl)
    (case iKl => kernel_rfl)
    (case aL => k_is)
    (case aM => k_is)
    (case aA => k_is)
    (case aP => k_is)
    (case aV => k_is)
    (case aO => k_is)
    (case aG => k_is)
    (case aD => k_is)
    (case aTO => k_is)
    (case aTA => k_is)
    (case tTO => k_is)
    (case tTA => k_is)
    (case z_isinstance => k_is)
    (case z_str => k_is)
    (case z_tuple => k_is)
    (case z_len => k_is)
    (case z_all => k_is)
    (case z_set => k_is)
    (case z_int => k_is)
    (case z_list => k_is)
    (case z_range => k_is)
    (case z_min => k_is)
    (case z_max => k_is)
    (case z_abs => k_is)
    (case z_repr => k_is)
    (case z_bool => k_is)
    (case z_sorted => k_is)

