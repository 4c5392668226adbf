import PyProof.Rows.All
import Wide.All
import OpenK.AllK
import Wide.FinOn
import HandS.ForMost
import HandS.ExcOwn
import HandS.WordsExc
import HandS.Defaults
import HandS.MakeKwOnly
import HandS.TupAny
import HandS.Wide
import HandS.Codes
import PySem.Challenge.RW_lentcells_k02_whole_terms_in_changed_fra
import HandS.New
import HandS.Property
import HandS.SlotsOwn
import PyProof.CallStr
import HandS.ExcCtx
import HandS.Dict
import PyProof.DictUpdate
import PyProof.DictDisplay
import HandS.Set
import HandS.Strs
import PyProof.Rows.SetObj
import HandS.Conv
import KE.KDictList
import PyProof.TupleCall
import HandS.IsInst
import PyProof.ReprRoads
import HandS.DictComp
import HandS.Star
import HandS.Walk
import HandS.WordsDict
import HandS.More
import HandS.FStr
import HandS.Text
import PyProof.StrLaws
import PyProof.StrBlockL
import HandS.TryOnly
import HandS.StrMore
import PyProof.ReprLen
import HandS.Lambda
import HandS.Zip
import KE.KDictZip
import HandS.Hot
import HandS.HotCalls
import HandS.SuiteRaise
import HandS.EndBits
import HandS.EndTab
import HandS.EndOwn
set_option Elab.async false
set_option linter.all false
set_option autoImplicit false
set_option maxRecDepth 100000
set_option maxHeartbeats 4000000
namespace KX
open PySem PySem.Spec PyProof.Rows L2
/-- C(..) where what __init__ raises is wished for at the caller's slots -/
def tMakeS (C : Addr) (sp : Sp) (E : L2.St → XK) (t : TA) : TE := fun σ H Q => t σ H fun vs H1 => ∀ x dx, H1 x = none → H1 dx = none → dx ≠ x →
  sp (.ref x :: vs) (upd (upd H1 dx (.own x)) x (.ins C dx [])) (fun v H2 => v = .non ∧ Q (.ref x) H2) (E σ)
section
variable {X : Cx} {CX : CXT} {k : Nat} {f C : Addr} {fd : FuncData} {ps : List Str} {sp : Sp} {E : L2.St → XK} {x : Str} {p pos : Pos} {e : Expr} {es : List Expr} {t : TA}
theorem pe_makeS (M : Mk X.K C f) (F : FnOk X.prog X.w X.K X.mg X.base CX k f fd ps sp) (hr : Room (k + 1) X.A) (hg : Gl X x) (hm : X.mg x = some (.ref C)) (hb : Binds X.K fd ps []) (hx : ∀ σ, PassesAt CX X σ (E σ)) (ha : PA X (e :: es) t)
    (hdb : (x == ("__debug__" : Str)) = false := by decide) (he : starEach (e :: es) X.env = (false, eval e X.env) :: starEach es X.env := by rfl) (hpl : (backTo pos (starEach es X.env)).any (·.1) = false := by rfl) :
    PE X (.Call (.Name x p) (e :: es) [] pos) (tMakeS C sp E t) := by
  refine ⟨fun pins s σ H Q I h => wpAny_Call_Name_kw (ld_glob I hg hm ?_ hdb)⟩
  refine PySem.W.callWith_K (h₀ := X.base) I.ok.mod.kin M.kp (thn (ha.run pos pins s σ H _ I h) fun us s1 ⟨vs, H1, I1, r, q⟩ => ⟨I1.kIn, ?_⟩) he hpl
  have n0 := I1.hok.fresh (Nat.le_refl s1.heap.objs.size)
  have n1 := I1.hok.fresh (Nat.le_succ s1.heap.objs.size)
  have asked := q (s1.heap.objs.size + 1) s1.heap.objs.size n1 n0 (Nat.ne_of_lt (Nat.lt_succ_self _))
  have I2 := Inv.made (C := C) I1
  have r2 : Vals (V.ref (s1.heap.objs.size + 1) :: vs) (Value.ref (s1.heap.objs.size + 1) :: us) := .cons rfl r
  have few : (Value.ref (s1.heap.objs.size + 1) :: us ++ []).length = ps.length := by
    rw [List.append_nil, ← r2.length]
    exact F.len _ _ _ _ asked
  have bound := hb _ (Value.ref (s1.heap.objs.size + 1) :: us) I2.kIn few
  rw [List.append_nil] at bound
  refine wpAny_call (make_map (f := f) I1.kIn M.makes M.init (beq_iff_eq.mp M.fn) (codeAny_mono (F.run _ X.stack _ _ ⟨Value.ref (s1.heap.objs.size + 1) :: us, []⟩ _ _ _ (E σ) (hr.make C us []) (I2.env0.make C us []) bound r2 asked) fun a s2 got => ?_))
  cases a with
  | error er => exact hx σ pins _ _ er s2 I2 got
  | ok fl =>
    cases fl with
    | ret u =>
      obtain ⟨v, H3, I3, rv, rfl, last⟩ := I2.after got
      exact ⟨rv, .ref (s1.heap.objs.size + 1), H3, I3, rfl, last⟩
    | next => exact False.elim got
    | brk => exact False.elim got
    | cont => exact False.elim got
end
end KX

set_option autoImplicit false
set_option maxRecDepth 100000
set_option maxHeartbeats 4000000
/-! methods called by keywords; methods called inside a try -/
namespace KX
open PySem PySem.Spec PyProof.Rows L2
def tMethA (C : Addr) (m : Str) (sp : Sp) (E : L2.St → XK) (ta : TE) (t : TA) : TE := fun σ H Q => ta σ H fun x H1 => ∃ a dx fs, x = .ref a ∧ H1 a = some (.ins C dx fs) ∧ fs.lookup m = none ∧
  t σ H1 fun vs H2 => sp (x :: vs) H2 Q (E σ)
def tMethN (C : Addr) (m : Str) (n k : Nat) (sp : Sp) (gV : List V → List V → List V) (E : L2.St → XK) (ta : TE) (t tk : TA) : TE := fun σ H Q => ta σ H fun x H1 => ∃ a dx fs, x = .ref a ∧ H1 a = some (.ins C dx fs) ∧ fs.lookup m = none ∧
  t σ H1 fun vs H2 => tk σ H2 fun zs H3 => vs.length + 1 = n ∧ zs.length = k ∧ sp (gV (x :: vs) zs) H3 Q (E σ)
section
variable {X : Cx} {CX : CXT} {k n : Nat} {f C : Addr} {fd : FuncData} {ps ks : List Str} {sp : Sp} {E : L2.St → XK} {m : Str} {apos pos : Pos} {o e : Expr} {es : List Expr} {kws : List Keyword} {ta : TE} {t tk : TA} {g : List Value → List Value → List Value} {gV : List V → List V → List V}
theorem run_fnNS {pins : List (Addr × Obj)} {σ : L2.St} {H : Hp} {s : Shared} {Q : VK} {us ws : List Value} {vs zs : List V} (F : FnOk X.prog X.w X.K X.mg X.base CX k f fd ps sp) (hr : Room k X.A) (hb : KBn X.K fd ps n ks g gV) {σ0 : L2.St} (hx : PassesAt CX X σ0 (E σ0)) (h0 : σ0 = σ)
    (I : Inv X pins σ H s) (r : Vals vs us) (rz : Vals zs ws) (l1 : vs.length = n) (l2 : zs.length = ks.length) (h : sp (gV vs zs) H Q (E σ0)) : wpAny (model X.prog X.w) X.A (call (.ref f) us (ks.zip ws)) (EP X pins σ Q) X.xe s := by
  subst h0
  have r2 := hb.rel r rz
  refine wpAny_call (codeAny_mono (F.run X.A X.stack s H ⟨us, ks.zip ws⟩ (g us ws) (gV vs zs) Q (E σ0) hr I.env0 (hb.to s us ws I.kIn (r.length.symm.trans l1) (rz.length.symm.trans l2)) r2 h) fun r s' hq => ?_)
  cases r with
  | error e => exact hx pins H s e s' I hq
  | ok fl =>
    cases fl with
    | ret u => exact I.after hq
    | next => exact False.elim hq
    | brk => exact False.elim hq
    | cont => exact False.elim hq
/-- o.m(e, ..) -/
theorem pe_methA {pl : Sem Bool} (he : PE X o ta) (c : Cls X.K C) (hm : Meth X.K C m f) (F : FnOk X.prog X.w X.K X.mg X.base CX k f fd ps sp) (hr : Room k X.A) (hb : Binds X.K fd ps []) (hx : ∀ σ, PassesAt CX X σ (E σ)) (ha : PA X (e :: es) t)
    (hst : starEach (e :: es) X.env = (false, eval e X.env) :: starEach es X.env := by rfl) (hpl : (backTo pos (starEach es X.env)).any (·.1) = false := by rfl)
    (ht : eval (.Call (.Attribute o m apos) (e :: es) [] pos) X.env = (do
      let ov ← eval o X.env
      standAt apos.atName
      let (f, first) ← holding [ov] (getMethod ov m pl)
      callWith pos f first (backTo pos (starEach (e :: es) X.env)) (backToKw pos (keywordEach [] X.env))) := by rfl) :
    PE X (.Call (.Attribute o m apos) (e :: es) [] pos) (tMethA C m sp E ta t) := by
  refine ⟨fun pins s σ H Q I h => ?_⟩
  refine PySem.W.methodCall_KW (pl := pl) (thn (he.run pins s σ H _ I h) fun u s1 ⟨x, H1, I1, rx, a, dx, fs, ex, ea, l, q⟩ => ?_) ht
  subst ex
  obtain rfl : u = Value.ref a := rx
  refine getmeth_ok I1 ea c hm l ?_
  refine PySem.W.callWith_K (first := [.ref a]) (h₀ := X.base) I.ok.mod.kin hm.kp (thn (ha.run pos pins s1 σ H1 _ I1 q) fun us s2 ⟨vs, H2, I2, r, q2⟩ => ⟨I2.kIn, ?_⟩) hst hpl
  exact run_fnS (us := .ref a :: us) (vs := .ref a :: vs) F hr hb (hx σ) I2 (.cons rfl r) q2
/-- o.m(e, .., k = v, ..) -/
theorem pe_methN {pl : Sem Bool} (he : PE X o ta) (c : Cls X.K C) (hm : Meth X.K C m f) (F : FnOk X.prog X.w X.K X.mg X.base CX k f fd ps sp) (hr : Room k X.A) (hb : KBn X.K fd ps n ks g gV) (hx : ∀ σ, PassesAt CX X σ (E σ)) (ha : PA X (e :: es) t) (hkw : PK X kws tk)
    (hall : (backToKw pos (keywordEach kws X.env)).all (·.1.isSome) = true := by rfl) (hks : (backToKw pos (keywordEach kws X.env)).filterMap (·.1) = ks := by rfl)
    (hst : starEach (e :: es) X.env = (false, eval e X.env) :: starEach es X.env := by rfl)
    (hpl : ((backTo pos (starEach (e :: es) X.env)).any (·.1) || (backToKw pos (keywordEach kws X.env)).any (·.1.isNone)) = false := by rfl)
    (ht : eval (.Call (.Attribute o m apos) (e :: es) kws pos) X.env = (do
      let ov ← eval o X.env
      standAt apos.atName
      let (f, first) ← holding [ov] (getMethod ov m pl)
      callWith pos f first (backTo pos (starEach (e :: es) X.env)) (backToKw pos (keywordEach kws X.env))) := by rfl) :
    PE X (.Call (.Attribute o m apos) (e :: es) kws pos) (tMethN C m n ks.length sp gV E ta t tk) := by
  refine ⟨fun pins s σ H Q I h => ?_⟩
  refine PySem.W.methodCall_KW (pl := pl) (thn (he.run pins s σ H _ I h) fun u s1 ⟨x, H1, I1, rx, a, dx, fs, ex, ea, l, q⟩ => ?_) ht
  subst ex
  obtain rfl : u = Value.ref a := rx
  refine getmeth_ok I1 ea c hm l ?_
  refine PySem.W.callWith_KW (first := [.ref a]) (h₀ := X.base) I.ok.mod.kin hm.kp hall (thn (ha.run pos pins s1 σ H1 _ I1 q) fun us s2 ⟨vs, H2, I2, r, q2⟩ => ?_) hpl hst
  refine thn (hkw.run pos pins s2 σ H2 _ I2 q2) fun ws s3 ⟨zs, H3, I3, rz, l1, l2, q3⟩ => ⟨I3.kIn, ?_⟩
  rw [hks]
  exact run_fnNS (us := .ref a :: us) (vs := .ref a :: vs) F hr hb (hx σ) rfl I3 (.cons rfl r) rz l1 l2 q3
/-- o.m(k = v, ..) -/
theorem pe_methN0 {pl : Sem Bool} (he : PE X o ta) (c : Cls X.K C) (hm : Meth X.K C m f) (F : FnOk X.prog X.w X.K X.mg X.base CX k f fd ps sp) (hr : Room k X.A) (hb : KBn X.K fd ps n ks g gV) (hx : ∀ σ, PassesAt CX X σ (E σ)) (hkw : PK X kws tk)
    (hall : (backToKw pos (keywordEach kws X.env)).all (·.1.isSome) = true := by rfl) (hks : (backToKw pos (keywordEach kws X.env)).filterMap (·.1) = ks := by rfl)
    (hpl : ((backTo pos (starEach [] X.env)).any (·.1) || (backToKw pos (keywordEach kws X.env)).any (·.1.isNone)) = false := by rfl)
    (ht : eval (.Call (.Attribute o m apos) [] kws pos) X.env = (do
      let ov ← eval o X.env
      standAt apos.atName
      let (f, first) ← holding [ov] (getMethod ov m pl)
      callWith pos f first (backTo pos (starEach [] X.env)) (backToKw pos (keywordEach kws X.env))) := by rfl) :
    PE X (.Call (.Attribute o m apos) [] kws pos) (tMethN C m n ks.length sp gV E ta tNil tk) := by
  refine ⟨fun pins s σ H Q I h => ?_⟩
  refine PySem.W.methodCall_KW (pl := pl) (thn (he.run pins s σ H _ I h) fun u s1 ⟨x, H1, I1, rx, a, dx, fs, ex, ea, l, q⟩ => ?_) ht
  subst ex
  obtain rfl : u = Value.ref a := rx
  refine getmeth_ok I1 ea c hm l ?_
  refine PySem.W.callWith_KW0 (first := [.ref a]) (h₀ := X.base) I.ok.mod.kin hm.kp hall ?_ hpl
  refine thn (hkw.run pos pins s1 σ H1 _ I1 q) fun ws s3 ⟨zs, H3, I3, rz, l1, l2, q3⟩ => ⟨I3.kIn, ?_⟩
  rw [hks]
  exact run_fnNS (us := [.ref a]) (vs := [.ref a]) F hr hb (hx σ) rfl I3 (.cons rfl .nil) rz l1 l2 q3
end
theorem pass0At {X : Cx} {σ : L2.St} {E : XK} : PassesAt CX0 X σ E := fun _ _ _ _ _ _ h => h.elim
end KX

set_option autoImplicit false
set_option maxRecDepth 100000
set_option maxHeartbeats 4000000
namespace KX
open PySem PySem.Spec PyProof.Rows L2 HT
section
variable {prog : Program} {w : World} {A : Around} {E : Value → Shared → Prop} {s : Shared}
theorem fm_map {α β : Type} {f : α → Option β} {g : α → β} : ∀ l : List α, (∀ k ∈ l, f k = some (g k)) → l.filterMap f = l.map g
  | [], _ => rfl
  | x :: l, h => by
    rw [List.filterMap_cons, h x List.mem_cons_self, List.map_cons, fm_map l fun k hk => h k (List.mem_cons_of_mem _ hk)]
theorem pick_back (its : List Value) : (List.range its.length).filterMap (fun (k : Nat) => its.toArray[(((its.length : Int) - 1) + (k : Int) * -1).toNat]?) = its.reverse := by
  have e : ∀ k ∈ List.range its.length, its.toArray[(((its.length : Int) - 1) + (k : Int) * -1).toNat]? = some (its.reverse.getD k default) := fun k hk => by
    have hk' := List.mem_range.mp hk
    have e1 : (((its.length : Int) - 1) + (k : Int) * -1).toNat = its.length - 1 - k := by omega
    rw [e1, List.getElem?_toArray, List.getElem?_eq_getElem (by omega)]
    rw [List.getD_eq_getElem?_getD, List.getElem?_reverse (by omega), List.getElem?_eq_getElem (by omega)]
    rfl
  rw [fm_map _ e]
  refine List.ext_getElem? fun i => ?_
  rw [List.getElem?_map]
  by_cases h : i < its.length
  · rw [List.getElem?_range h]
    show some (its.reverse.getD i default) = _
    rw [List.getD_eq_getElem?_getD, List.getElem?_eq_getElem (by rw [List.length_reverse]; exact h)]
    rfl
  · rw [List.getElem?_eq_none (by rw [List.length_range]; omega), List.getElem?_eq_none (by rw [List.length_reverse]; omega)]
    rfl
theorem sliceApplied_back {sl : Addr} {u : Tok} {n : Nat} {Q : Int × Int × Nat → Shared → Prop} (hs : s.heap.IsSliceOf sl .none .none (.int (-1) u)) (h : Q ((n : Int) - 1, -1, n) s) : wpAny (model prog w) A (Builtin.Slice.sliceApplied (.ref sl) (pure (n : Int))) Q E s := by
  obtain ⟨os, hos, hcs, hds⟩ := id hs
  unfold Builtin.Slice.sliceApplied Builtin.Slice.sliceFields
  refine wpAny_bind (wpAny_bind (wpAny_field hos hds (x := .none) rfl (wpAny_bind (wpAny_field hos hds (x := .none) rfl (wpAny_bind (wpAny_field hos hds (x := .int (-1) u) rfl (wpAny_pure ?_)))))))
  refine wpAny_bind (slicePart_int ?_)
  show wpAny _ _ (if ((-1 : Int) == 0) = true then _ else _) _ _ s
  rw [if_neg (by decide)]
  refine wpAny_bind (slicePart_none (wpAny_bind (slicePart_none (wpAny_bind (wpAny_pure ?_)))))
  show wpAny _ _ (pure (((n : Int) - 1), (-1 : Int), Builtin.Slice.slicePlaces ((n : Int) - 1) (-1) (-1))) _ _ s
  have e : Builtin.Slice.slicePlaces ((n : Int) - 1) (-1) (-1) = n := by
    unfold Builtin.Slice.slicePlaces
    rw [if_neg (by decide)]
    by_cases h : (n : Int) - 1 > -1
    · rw [if_pos h]
      simp only [Int.neg_neg, Int.ediv_one]
      omega
    · rw [if_neg h]
      omega
  rw [e]
  exact wpAny_pure h
theorem getItem_back {t sl : Addr} {its : List Value} {u : Tok} {Q : Value → Shared → Prop} (ht : IsTup s.heap t its.toArray) (hs : s.heap.IsSliceOf sl .none .none (.int (-1) u))
    (h : Q (.ref s.heap.objs.size) { s with heap := s.heap.push { cls := .type "tuple", data := .seq its.reverse.toArray } }) (hsz : its.length ≤ sizeLine) : wpAny (model prog w) A (getItem (.ref t) (.ref sl)) Q E s := by
  have hsize : sizeOk (.seq its.reverse.toArray) := by
    show its.reverse.toArray.size ≤ sizeLine
    rw [List.size_toArray, List.length_reverse]
    exact hsz
  obtain ⟨os, hos, hcs, hds⟩ := id hs
  have hTs : s.TypeIs (.ref sl) "slice" := ⟨os, hos, hcs⟩
  unfold getItem
  try with_reducible refine wpAny_holding ?_
  first | refine wpAny_bind (wpAny_pure ?_) | skip
  refine wpAny_bind (wpAny_sequenceKey ht.typeIs (by decide) ?_)
  refine wpAny_bind (wpAny_callSpecial?_slot (name := Str.ofString "__getitem__") ht.typeIs PyProof.Rows.slot_tuple_getitem
    (wpAny_call_entry PyProof.Rows.slot_tuple_getitem ht.typeIs entry_tuple_getitem ?_ (args_tuple_getitem _ _)))
  show wpAny _ _ (Builtin.Tuple.tupleItemsOf (.ref t) >>= _) _ _ s
  refine wpAny_bind (tupleItemsOf_ ht ?_)
  refine wpAny_bind (wpAny_typeOf hTs ?_)
  rw [if_pos (by decide)]
  rw [List.size_toArray]
  refine wpAny_bind (sliceApplied_back hs ?_)
  have hno : ¬ ((((its.length : Int) - 1) == 0 && (-1 : Int) == 1 && its.length == its.length) = true) := by
    intro q
    rw [Bool.and_eq_true, Bool.and_eq_true] at q
    have := eq_of_beq q.1.2
    omega
  show wpAny _ _ (if (((its.length : Int) - 1) == 0 && (-1 : Int) == 1 && its.length == its.length) = true then _ else _) _ _ s
  rw [if_neg hno, pick_back]
  first
    | exact wpAny_bind (m := Builtin.Tuple.tupleExact _) (wpAny_newObj_type (wpAny_pure ⟨_, rfl, wpAny_pure h⟩) hsize)
    | exact wpAny_bind (m := Builtin.Tuple.tupleExact _) (wpAny_newObj_type (wpAny_bind (wpAny_pure (wpAny_pure ⟨_, rfl, wpAny_pure h⟩))) hsize)
    | exact wpAny_bind (wpAny_bind (m := Builtin.Tuple.tupleExact _) (wpAny_newObj_type (wpAny_pure (wpAny_pure ⟨_, rfl, wpAny_pure h⟩)) hsize))
    | exact wpAny_bind (wpAny_bind (m := Builtin.Tuple.tupleExact _) (wpAny_newObj_type (wpAny_pure ⟨_, rfl, wpAny_pure h⟩) hsize))
end
section
variable {X : Cx}
def tRevT (K : PySem.W.Frag) (te : TE) : TE := fun σ H Q => te σ H fun x H1 => ∃ a xs, x = .ref a ∧ SqT K H1 a xs ∧ ∀ p, H1 p = none → Q (.ref p) (upd H1 p (.tup xs.reverse))
/-- t[::-1] -/
theorem pe_tupBack {e : Expr} {te : TE} {k : Nat} {p1 p2 p3 pos : Pos} (he : PE X e te) : PE X (.Subscript e (.Slice none none (some (.UnaryOp .USub (.Constant (.int 1) k p1) p2)) p3) pos) (tRevT X.K te) := by
  refine ⟨fun pins s σ H Q I h => ?_⟩
  refine Subscript_ (thn (he.run pins s σ H _ I h) fun v s1 ⟨x, H1, I1, r1, q1⟩ => ?_)
  obtain ⟨a, xs, ex, hx, q⟩ := q1
  subst ex
  cases r1
  have hst : PE X (.UnaryOp .USub (.Constant (.int 1) k p1) p2) (tUn (rU fun i => .int (-i)) (tC (.int 1))) := pe_un un_neg pe_int
  refine wpAny_Slice ?_
  rw [evalPart_none]
  refine wpAny_pure ?_
  refine wpAny_pure ?_
  rw [evalPart_some]
  refine thn (hst.run pins s1 σ H1 (fun y H4 => y = .int (-1) ∧ H4 = H1) I1 ⟨1, rfl, rfl, rfl⟩) fun u s4 ⟨y, H4, I4, r2, eo, e4⟩ => ?_
  subst eo e4
  obtain ⟨t, rfl⟩ := r2
  have I5 : Inv X pins σ H4 { s4 with heap := s4.heap.push { cls := .type "slice", data := .fields #[.none, .none, .int (-1) t] } } := I4.kept (t' := s4.toks) fun b ob q => Heap.get?_push_of_some _ q
  obtain ⟨its, r, ht, hz⟩ := I5.tuple hx
  have hlen := r.length
  show wpAny (model X.prog X.w) X.A (subscriptTail e (.Slice none none (some (.UnaryOp .USub (.Constant (.int 1) k p1) p2)) p3) (.ref a) (.ref s4.heap.objs.size)) (EP X pins σ Q) X.xe { s4 with heap := s4.heap.push { cls := .type "slice", data := .fields #[.none, .none, .int (-1) t] } }
  refine tail_any (ops := [.ref a, .ref s4.heap.objs.size]) ht.typeIs PyProof.Rows.slot_tuple_getitem.lookup ?_ (by with_unfolding_all rfl)
  refine getItem_back ht (Heap.IsSliceOf.new ..) ?_ (by omega)
  refine ⟨.ref _, _, I5.laid (t' := s4.toks) (o := .tup xs.reverse) (fun b ob q => Heap.get?_push_of_some _ q) (Nat.le_refl _) ?_, rfl, q _ (I5.hok.fresh (Nat.le_refl _))⟩
  exact ⟨by rw [List.length_reverse]; exact hz, _, r.reverse, IsTup.new _ _⟩
end
end KX

set_option maxRecDepth 100000
set_option maxHeartbeats 4000000
namespace K02
open PySem PySem.Spec PyProof.Rows L2
def topS (i : Nat) : Stmt := PySem.Challenge.pw_lentcells_k02_whole_terms_in_changed_fra.main.body.getD i (.Pass ⟨0, 0, 0, 0⟩)
abbrev sIsName : Stmt := topS 18
abbrev sCreel : Stmt := topS 32
abbrev sFish : Stmt := topS 33
abbrev sOne : Stmt := topS 34
theorem scCreel : FnScope ["_law_script", "_law_at", "_law_cell", "_law_great", "_law_mixed"] ["_law_script", "_law_at"] (defScope sCreel) :=
  ⟨rfl, rfl, rfl, by decide +kernel, rfl, by decide +kernel, by decide +kernel⟩
theorem scFish : FnScope ["_law_creel_here", "_law_total", "_law_found", "_law_one", "_law_two"] ["_law_creel_here", "_law_total"] (defScope sFish) :=
  ⟨rfl, rfl, rfl, by decide +kernel, rfl, by decide +kernel, by decide +kernel⟩
theorem scOne : FnScope ["_law_creel_here", "_law_items"] ["_law_creel_here", "_law_items"] (defScope sOne) :=
  ⟨rfl, rfl, rfl, by decide +kernel, rfl, by decide +kernel, by decide +kernel⟩
/-- the modulus of a great cell -/
def big : Int := ((10 : Int) ^ (58 : Int).toNat) ^ (10 : Int).toNat
theorem big_pos : 0 < big := by unfold big; decide +kernel
theorem big_lt : big.natAbs < 2 ^ 2000 := by unfold big; decide +kernel
def CPowW (i j : Int) : Prop := 0 ≤ j ∧ (Builtin.Int.intBits i : Int) * j ≤ 2 ^ 27
theorem op_powW {X : Cx} : OpR X (binaryOp .Pow) (rI CPowW fun i j => .int (i ^ j.toNat)) := opI fun _ _ _ _ _ _ _ hc q => pow_int hc.1 hc.2 q
/-- a creel: three numbers -/
structure Cr (x y c : Int) : Prop where
  x0 : 0 ≤ x
  xb : x.natAbs < 2 ^ 2000
  y0 : 0 ≤ y
  yb : y < 2305843009213693951
  c0 : 0 ≤ c
  cb : c ≤ 1000000
theorem small_bits {i : Int} {n : Nat} (h0 : 0 ≤ i) (h : i < 2 ^ n) : i.natAbs < 2 ^ n := by
  have e : ((i.natAbs : Nat) : Int) < ((2 ^ n : Nat) : Int) := by
    rw [Int.natAbs_of_nonneg h0]
    have : ((2 ^ n : Nat) : Int) = (2 : Int) ^ n := by simp
    omega
  omega
def spCreel (K : PySem.W.Frag) : Sp := fun vs H Q _ => ∃ (a : Addr) (ns : List Int) (i : Int), vs = [.ref a, .int i] ∧ SqL K H a (ns.map V.int) ∧ ns.length ≤ 63 ∧ 0 ≤ i ∧ i ≤ 1000 ∧
  ∀ p x y, Cr x y 0 → H p = none → Q (.ref p) (upd H p (.lst [.int x, .int y, .int 0]))
def spFish : Sp := fun vs H Q _ => ∃ (a : Addr) (x y c t : Int), vs = [.ref a, .int t] ∧ H a = some (.lst [.int x, .int y, .int c]) ∧ Cr x y c ∧ c < 1000000 ∧ 0 < t ∧ t ≤ 1000 ∧
  ∀ r x' c', 0 ≤ r → r < t → Cr x' y c' → c' ≤ c + 1 → Q (.int r) (upd H a (.lst [.int x', .int y, .int c']))
section
variable {P : Program} {w : World} {K : PySem.W.Frag} {mg : Str → Option Value} {base : Heap}
theorem ok_creel {f : Addr} {fd : FuncData} (F : Fun K "_law_creel" "_law_creel" sCreel f fd) (ml : mg "len" = none) (mi : mg "int" = none) (ma : mg "abs" = none) (mm : mg "max" = none) :
    FnOk P w K mg base CX0 1 f fd ["_law_script", "_law_at"] (spCreel K) := by
  refine F.ok scCreel (fun vs H Q E h => ?_) (fun cdv A outer s H vs Q E hr h => ?_)
  · obtain ⟨a, ns, i, rfl, _⟩ := h
    rfl
  · obtain ⟨a, ns, i, rfl, hS, hlen, hi0, hi1, q⟩ := h
    refine ⟨_, C8.pss_cut (ps_set (i := 2) scCreel.nd rfl (.inl rfl) (pe_ifExp (pt_cmpR op_lt (pv 1) (pe_callB call_len_seq (by rfl) ml PySem.boot_len (pa_cons (pv 0) pa_nil)) (nomark _))
        (pe_ix ix_list (pv 0) (pv 1) (fun _ _ => rfl)) (pe_op op_add (pe_op op_mul pe_int (pv 1)) pe_int)))
      (pss_cons (ps_set (i := 3) scCreel.nd rfl (.inl rfl) (pe_op op_mod (pe_callTy call_int1 (by rfl) mi (by decide +kernel) (pa_cons (pe_callB call_abs (by rfl) ma (by decide +kernel) (pa_cons (pv 2) pa_nil)) pa_nil)) (pe_op op_powW (pe_op op_pow pe_int pe_int) pe_int)))
      (pss_cons (ps_set (i := 4) scCreel.nd rfl (.inl rfl) (pe_op op_mod (pe_callTy call_int1 (by rfl) mi (by decide +kernel) (pa_cons
          (pe_op op_add (pe_op op_add (pe_op op_add (pe_op op_mul (pv 3) pe_int) (pe_op op_mul pe_int (pv 1))) (pe_op op_mul pe_int (pe_callTy call_int1 (by rfl) mi (by decide +kernel) (pa_cons (pe_cmpR op_lt (pv 2) pe_int (nomark _)) pa_nil)))) pe_int) pa_nil)) pe_int))
      (pss_one (ps_ret (pe_lst (pa_cons (pe_callB (call_max2 rfl) (by rfl) mm (by decide +kernel) (pa_cons pe_int (pa_cons (pe_op op_sub (pv 3) (pe_op op_pow pe_int pe_int)) pa_nil))) (pa_cons (pv 4) (pa_cons pe_int pa_nil)))))))), ?_⟩
    refine ⟨fun σ' H' => H' = H ∧ ∃ z : Int, σ' = [some (.ref a), some (.int i), some (.int z), none, none], ?_, ?_⟩
    · refine ⟨_, rfl, .ref a, rfl, a, ns.map V.int, rfl, .inl hS, i, _, rfl, rfl, _, rfl, ite2 (fun e => ?_) (fun e => ?_)⟩
      · have hlt : i < ((ns.map V.int).length : Int) := of_decide_eq_true e
        rw [List.length_map] at hlt
        obtain ⟨n, rfl⟩ : ∃ n : Nat, i = (n : Int) := ⟨i.toNat, by omega⟩
        have hn : n < ns.length := by omega
        have g : (ns.map V.int)[n]? = some (.int ns[n]) := by
          rw [List.getElem?_map, List.getElem?_eq_getElem hn]
          rfl
        exact ⟨.ref a, rfl, _, rfl, a, _, _, _, rfl, rfl, hS, atI_nat g, rfl, _, rfl⟩
      · exact ⟨_, rfl, 113, i, rfl, rfl, .inl (by decide), _, _, rfl, rfl, rfl, _, rfl⟩
    · rintro σ' H' ⟨rfl, z, rfl⟩
      have hz0 : 0 ≤ (if z < 0 then -z else z) := by split <;> omega
      have hp : 0 < big := big_pos
      refine ⟨_, rfl, z, rfl, .inl ⟨_, rfl, 10, 58, rfl, rfl, ⟨by decide, by decide, by decide⟩, _, 10, rfl, rfl, ⟨by decide, by decide +kernel⟩, _, _, rfl, rfl, hp, ?_⟩⟩
      have hg0 : 0 ≤ (if z < 0 then -z else z) % big := Int.emod_nonneg _ (by omega)
      have hg1 : (if z < 0 then -z else z) % big < big := Int.emod_lt_of_pos _ hp
      show tSeq _ _ _ [some (.ref a), some (.int i), some (.int z), some (.int ((if z < 0 then -z else z) % big)), none] _
      generalize (if z < 0 then -z else z) % big = g at hg0 hg1
      have hgb : g.natAbs < 2 ^ 2000 := Nat.lt_of_le_of_lt (by omega) big_lt
      refine ⟨_, rfl, g, 5, rfl, rfl, .inr (by decide), _, rfl, 22801763, i, rfl, rfl, .inl (by decide), _, _, rfl, rfl, _, rfl, z, 0, rfl, rfl, .inr ⟨_, rfl, 86028121, _, rfl, rfl, .inl (by decide), _, _, rfl, rfl, _, 727, rfl, rfl, .inl ⟨_, rfl, _, 2305843009213693951, rfl, rfl, (by show (0 : Int) < 2305843009213693951; decide), ?_⟩⟩⟩
      refine ⟨_, rfl, 10, 17, rfl, rfl, ⟨by decide, by decide, by decide⟩, _, _, rfl, rfl, 0, _, rfl, _, rfl, (by show 3 ≤ sizeLine; decide), fun p hp => ?_⟩
      refine q p _ _ ⟨?_, ?_, Int.emod_nonneg _ (by decide), Int.emod_lt_of_pos _ (by decide), by decide, by decide⟩ hp
      · split <;> omega
      · refine Nat.lt_of_le_of_lt ?_ hgb
        have e17 : (0 : Int) < 10 ^ Int.toNat 17 := by decide
        split <;> omega
end
end K02

set_option maxRecDepth 100000
set_option maxHeartbeats 4000000
namespace K02
open PySem PySem.Spec PyProof.Rows L2
section
variable {P : Program} {w : World} {K : PySem.W.Frag} {mg : Str → Option Value} {base : Heap}
theorem ok_fish {f : Addr} {fd : FuncData} (F : Fun K "_law_fish" "_law_fish" sFish f fd) (mi : mg "int" = none) :
    FnOk P w K mg base CX0 1 f fd ["_law_creel_here", "_law_total"] spFish := by
  refine F.ok scFish (fun vs H Q E h => ?_) (fun cdv A outer s H vs Q E hr h => ?_)
  · obtain ⟨a, x, y, c, t, rfl, _⟩ := h
    rfl
  · obtain ⟨a, x, y, c, t, rfl, ha, C, hc, ht0, ht1, q⟩ := h
    refine ⟨_, pss_cons (ps_if (pt_cmpR op_gt (pe_ix ix_list (pv 0) pe_int (fun _ _ => rfl)) pe_int (nomark _))
        (pss_cons (ps_set (i := 2) scFish.nd rfl (.inl rfl) (pe_op op_mod (pe_callTy call_int1 (by rfl) mi (by decide +kernel) (pa_cons (pe_ix ix_list (pv 0) pe_int (fun _ _ => rfl)) pa_nil)) (pv 1)))
        (pss_cons (ps_asg (pe_op op_fdivW (pe_ix ix_list (pv 0) pe_int (fun _ _ => rfl)) (pv 1)) (pg_sub (pv 0) pe_int set_list))
        (pss_one (ps_ret (pv 2))))) pss_nil)
      (pss_cons (ps_asg (pe_op op_add (pe_ix ix_list (pv 0) pe_int (fun _ _ => rfl)) pe_int) (pg_sub (pv 0) pe_int set_list))
      (pss_cons (ps_set (i := 3) scFish.nd rfl (.inl rfl) (pe_op op_mod (pe_callTy call_int1 (by rfl) mi (by decide +kernel) (pa_cons (pe_op op_add (pe_op op_mul (pe_ix ix_list (pv 0) pe_int (fun _ _ => rfl)) pe_int) (pe_op op_mul (pe_ix ix_list (pv 0) pe_int (fun _ _ => rfl)) pe_int)) pa_nil)) pe_int))
      (pss_cons (ps_set (i := 4) scFish.nd rfl (.inl rfl) (pe_op op_mod (pe_callTy call_int1 (by rfl) mi (by decide +kernel) (pa_cons (pe_op op_add (pe_op op_mul (pv 3) (pv 3)) (pe_op op_mul pe_int (pe_ix ix_list (pv 0) pe_int (fun _ _ => rfl)))) pa_nil)) pe_int))
      (pss_one (ps_ret (pe_op op_mod (pe_callTy call_int1 (by rfl) mi (by decide +kernel) (pa_cons (pe_op op_fdiv (pe_op op_mod (pe_callTy call_int1 (by rfl) mi (by decide +kernel) (pa_cons (pe_op op_add (pe_op op_mul (pv 4) pe_int) (pv 3)) pa_nil)) pe_int) pe_int) pa_nil)) (pv 1))))))), ?_⟩
    have hS : SqL K H a [V.int x, V.int y, V.int c] := SqL.of ha
    refine ⟨.ref a, rfl, a, _, 0, .int x, rfl, rfl, hS, rfl, x, 0, rfl, rfl, _, rfl, ite2 (fun e => ?_) (fun e => ?_)⟩
    · have hx : 0 < x := of_decide_eq_true e
      refine ⟨.ref a, rfl, a, _, 0, .int x, rfl, rfl, hS, rfl, .inl ⟨x, rfl, .int t, rfl, x, t, rfl, rfl, ht0, ?_⟩⟩
      refine ⟨.ref a, rfl, a, _, 0, .int x, rfl, rfl, hS, rfl, .int t, rfl, x, t, rfl, rfl, wide_div (b := 64) ht0 (by omega) (by decide) (by decide), ?_⟩
      refine ⟨.ref a, rfl, a, _, 0, 0, rfl, rfl, ha, rfl, ?_⟩
      refine ⟨_, rfl, q _ _ _ (Int.emod_nonneg _ (by omega)) (Int.emod_lt_of_pos _ ht0) ⟨?_, ?_, C.y0, C.yb, C.c0, C.cb⟩ (by omega)⟩
      · exact Int.ediv_nonneg C.x0 (by omega)
      · have h1 : 0 ≤ x / t := Int.ediv_nonneg C.x0 (by omega)
        have h2 : x / t ≤ x := Int.ediv_le_self _ C.x0
        exact Nat.lt_of_le_of_lt (by omega) C.xb
    · have hx : x = 0 := by
        have := C.x0
        have h2 : ¬ 0 < x := fun z => e (decide_eq_true z)
        omega
      refine ⟨.ref a, rfl, a, _, 2, .int c, rfl, rfl, hS, rfl, c, 1, rfl, rfl, ?_⟩
      refine ⟨.ref a, rfl, a, _, 2, 2, rfl, rfl, ha, rfl, ?_⟩
      have hS2 : SqL K (upd H a (.lst [V.int x, V.int y, V.int (c + 1)])) a [V.int x, V.int y, V.int (c + 1)] := SqL.of upd_same
      have hy0 := C.y0
      have hyb := C.yb
      have hc0 := C.c0
      refine ⟨.ref a, rfl, a, _, 1, .int y, rfl, rfl, hS2, rfl, y, _, rfl, rfl, .inr (by decide), .ref a, rfl, a, _, 2, .int (c + 1), rfl, rfl, hS2, rfl, c + 1, _, rfl, rfl, .inr (by decide), _, _, rfl, rfl, .inl ⟨_, rfl, _, 2305843009213693951, rfl, rfl, (by show (0 : Int) < 2305843009213693951; decide), ?_⟩⟩
      have ho0 : ∀ z : Int, 0 ≤ z % 2305843009213693951 := fun z => Int.emod_nonneg _ (by decide)
      have ho1 : ∀ z : Int, z % 2305843009213693951 < 2305843009213693951 := fun z => Int.emod_lt_of_pos _ (by decide)
      show tSeq _ _ _ [some (.ref a), some (.int t), none, some (.int ((y * 3202034522624059733 + (c + 1) * 2654435761) % 2305843009213693951)), none] _
      have g0 := ho0 (y * 3202034522624059733 + (c + 1) * 2654435761)
      have g1 := ho1 (y * 3202034522624059733 + (c + 1) * 2654435761)
      generalize (y * 3202034522624059733 + (c + 1) * 2654435761) % 2305843009213693951 = u at g0 g1
      have t0 : ∀ z : Int, 0 ≤ z % 1152921504606846883 := fun z => Int.emod_nonneg _ (by decide)
      have t1 : ∀ z : Int, z % 1152921504606846883 < 1152921504606846883 := fun z => Int.emod_lt_of_pos _ (by decide)
      refine ⟨_, rfl, _, rfl, u, u, rfl, rfl, .inl ⟨by omega, by omega⟩, .ref a, rfl, a, _, 2, .int (c + 1), rfl, rfl, hS2, rfl, 81689, c + 1, rfl, rfl, .inl (by decide), _, _, rfl, rfl, .inl ⟨_, rfl, _, 1152921504606846883, rfl, rfl, (by show (0 : Int) < 1152921504606846883; decide), ?_⟩⟩
      refine ⟨_, rfl, _, 13, rfl, rfl, .inr (by decide), _, rfl, _, u, rfl, rfl, .inl ⟨_, rfl, _, 2305843009213693921, rfl, rfl, (by show (0 : Int) < 2305843009213693921; decide), _, 65536, rfl, rfl, ⟨by decide, by decide⟩, .inl ⟨_, rfl, _, rfl, _, t, rfl, rfl, ht0, ?_⟩⟩⟩
      have e : (upd (upd H a (.lst [V.int x, V.int y, V.int (c + 1)])) a (.lst [V.int x, V.int y, V.int (c + 1)])) = upd H a (.lst [V.int x, V.int y, V.int (c + 1)]) := upd_upd
      exact q _ _ _ (Int.emod_nonneg _ (by omega)) (Int.emod_lt_of_pos _ ht0) ⟨C.x0, C.xb, C.y0, C.yb, by omega, by omega⟩ (Int.le_refl _)
def spOne : Sp := fun vs H Q _ => ∃ (a : Addr) (it : V) (x y c : Int), vs = [.ref a, it] ∧ H a = some (.lst [.int x, .int y, .int c]) ∧ Cr x y c ∧ c < 1000000 ∧
  ((∃ (p : Addr) (xs : List V), it = .ref p ∧ H p = some (.lst xs) ∧ p ≠ a ∧ 0 < xs.length ∧ xs.length ≤ 1000 ∧ ∀ (r : Nat) v x' c', xs[r]? = some v → Cr x' y c' → c' ≤ c + 1 → Q v (upd H a (.lst [.int x', .int y, .int c']))) ∨
  (∃ z : Str, it = .str z ∧ 0 < z.length ∧ z.length ≤ 1000 ∧ ∀ (r ch : Nat) x' c', z.cps.toList[r]? = some ch → Cr x' y c' → c' ≤ c + 1 → Q (.str ⟨#[ch]⟩) (upd H a (.lst [.int x', .int y, .int c']))))
theorem ok_one {f fF : Addr} {fd fdF : FuncData} (F : Fun K "_law_one_of" "_law_one_of" sOne f fd) (FF : Fun K "_law_fish" "_law_fish" sFish fF fdF) (bF : Binds K fdF ["_law_creel_here", "_law_total"] []) (gF : mg "_law_fish" = some (.ref fF)) (mi : mg "int" = none) (ml : mg "len" = none) :
    FnOk P w K mg base CX0 2 f fd ["_law_creel_here", "_law_items"] spOne := by
  have GF : FnOk P w K mg base CX0 1 fF fdF ["_law_creel_here", "_law_total"] spFish := ok_fish FF mi
  refine F.ok scOne (fun vs H Q E h => ?_) (fun cdv A outer s H vs Q E hr h => ?_)
  · obtain ⟨a, it, x, y, c, rfl, _⟩ := h
    rfl
  · obtain ⟨a, it, x, y, c, rfl, ha, C, hc, hk⟩ := h
    refine ⟨_, pss_one (ps_ret (pe_ix (IxR.or ix_list ix_str) (pv 1) (pe_call GF hr (by rfl) gF FF.kp bF .nil pass0 (pa_cons (pv 0) (pa_cons (pe_callB (CallR.or call_len_seq call_len_str) (by rfl) ml PySem.boot_len (pa_cons (pv 1) pa_nil)) pa_nil))) (fun _ _ => rfl))), ?_⟩
    rcases hk with ⟨p, xs, rfl, hp, hpa, hl0, hl1, q⟩ | ⟨z, rfl, hl0, hl1, q⟩
    · refine ⟨.ref p, rfl, .ref a, rfl, .ref p, rfl, .inl ⟨p, xs, rfl, .inl (SqL.of hp), ?_⟩⟩
      refine ⟨a, x, y, c, xs.length, rfl, ha, C, hc, by omega, by omega, fun r x' c' hr0 hr1 C' hc' => .inl ?_⟩
      have hrl : r.toNat < xs.length := by omega
      have er : ((r.toNat : Nat) : Int) = r := Int.toNat_of_nonneg hr0
      have hp' : (upd H a (.lst [.int x', .int y, .int c'])) p = some (.lst xs) := by rw [upd_ne hpa]; exact hp
      refine ⟨p, xs, r, xs[r.toNat], rfl, rfl, SqL.of hp', ?_, q r.toNat _ x' c' (List.getElem?_eq_getElem hrl) C' hc'⟩
      have g := atI_nat (xs := xs) (List.getElem?_eq_getElem hrl)
      rw [er] at g
      exact g
    · have hzs : z.length ≤ sizeLine := Nat.le_trans hl1 (by decide)
      refine ⟨.str z, rfl, .ref a, rfl, .str z, rfl, .inr ⟨z, rfl, hzs, ?_⟩⟩
      refine ⟨a, x, y, c, z.length, rfl, ha, C, hc, by omega, by omega, fun r x' c' hr0 hr1 C' hc' => .inr ?_⟩
      have hrl : r.toNat < z.cps.toList.length := by
        have : z.length = z.cps.toList.length := by simp [Str.length]
        omega
      have er : ((r.toNat : Nat) : Int) = r := Int.toNat_of_nonneg hr0
      refine ⟨z, r, z.cps.toList[r.toNat], rfl, rfl, hzs, ?_, q r.toNat _ x' c' (List.getElem?_eq_getElem hrl) C' hc'⟩
      have g := atI_nat (xs := z.cps.toList) (List.getElem?_eq_getElem hrl)
      rw [er] at g
      exact g
end
end K02

set_option autoImplicit false
set_option maxRecDepth 100000
set_option maxHeartbeats 4000000
namespace KX
open PySem PySem.Spec PyProof.Rows L2
section
variable {prog : Program} {w : World} {A : Around} {E : Value → Shared → Prop} {s : Shared} {K : PySem.W.Frag} {x C f : Addr} {ox : Obj} {od : Option Obj}
/-- y in x, by the class's own __contains__ that answers a truth value -/
theorem contains_own {y : Value} {Q : Bool → Shared → Prop} (X : K.In s.heap) (I : PySem.W.InstAt s.heap x ox C od) (hs : PySem.W.findIn K (.ref C) "__contains__" = some (some (.ref f))) (hf : PySem.W.isFn K (.ref f) = true)
    (h : wpAny (model prog w) A (call (.ref f) [.ref x, y]) (fun r s' => ∃ b, r = .bool b ∧ Q b s') E s) : wpAny (model prog w) A (contains (.ref x) y) Q E s := by
  unfold contains
  refine wpAny_holding ?_
  rw [show stdlibNamesSay? (.ref x) y = none from rfl]
  refine wpAny_bind (wpAny_bind (I.type.here ((PySem.W.looks_findIn X hs).here ?_)))
  show wpAny _ A (if (some (Value.ref f) == some Value.none) = true then _ else _) Q E s
  rw [if_neg (by simp)]
  refine wpAny_bind (m := callSpecialUnlessNone? (.ref x) "__contains__" [y] _) ?_
  unfold callSpecialUnlessNone?
  refine wpAny_bind (wpAny_bind (I.type.here ((PySem.W.looks_findIn X hs).here ?_)))
  refine wpAny_holding (wpAny_bind ((PySem.W.bind_fn X _ (beq_iff_eq.mp hf)).here ?_))
  dsimp only
  rw [if_neg (by simp)]
  refine wpAny_bind (wpAny_mono h (fun r s' hr => ?_) fun _ _ e => e)
  obtain ⟨b, rfl, q⟩ := hr
  exact wpAny_pure (wpAny_truthy_bool q)
/-- len(x), by the class's own __len__ that answers an int -/
theorem len_own {Q : Value → Shared → Prop} (X : K.In s.heap) (I : PySem.W.InstAt s.heap x ox C od) (hs : PySem.W.findIn K (.ref C) "__len__" = some (some (.ref f))) (hf : PySem.W.isFn K (.ref f) = true)
    (h : wpAny (model prog w) A.in1 (call (.ref f) [.ref x]) (fun r s' => ∃ (n : Int) (u : Tok), r = .int n u ∧ 0 ≤ n ∧ n < 2 ^ 63 ∧ ∀ tk, Q (.int n tk) { s' with toks := s'.toks + 1 }) E s) : wpAny (model prog w) A (call (.builtin "len") [.ref x]) Q E s := by
  refine Calls.call_function_entry kind_len plain_len entry_len (args_len1 _) ?_
  unfold Builtin.«len»
  refine wpAny_bind (m := oneArg "len" _) (wpAny_pure ?_)
  refine wpAny_bind (m := callSpecial? (.ref x) (Str.ofString "__len__")) (PySem.W.special_fn X I hs (beq_iff_eq.mp hf) (wpAny_mono h (fun r s' hr => ?_) fun _ _ y => y))
  obtain ⟨n, u, rfl, h0, h1, q⟩ := hr
  refine wpAny_bind (wpAny_holding (wpAny_pure ?_))
  refine wpAny_bind (wpAny_letGo ?_)
  show wpAny _ _ (if n < 0 then _ else _) _ _ _
  rw [if_neg (by omega)]
  show wpAny _ _ (if n ≥ 2 ^ 63 then _ else _) _ _ _
  rw [if_neg (by omega)]
  exact wpAny_bind (wpAny_mkInt (wpAny_pure ⟨_, rfl, q _⟩))
end
end KX

set_option autoImplicit false
set_option maxRecDepth 100000
set_option maxHeartbeats 4000000
namespace KX
open PySem PySem.Spec PyProof.Rows L2
section
variable {prog : Program} {w : World} {A : Around} {E : Value → Shared → Prop} {s : Shared} {K : PySem.W.Frag} {x C f L : Addr} {ox : Obj} {od : Option Obj} {y tb : Value} {h₀ : Heap} {m : Str → Option Value}
theorem objNe_entry (X : K.In s.heap) (I : PySem.W.InstAt s.heap x ox C od) (hs : PySem.W.findIn K (.ref C) "__eq__" = some (some (.ref f))) (hf : PySem.W.isFn K (.ref f) = true) (hu : A.units < cLine) {Q : Fin → Shared → Prop}
    (h : wpAny (model prog w) A (call (.ref f) [.ref x, y]) (fun v s' => ∃ b, v = .bool b ∧ Q (.done (.ret (.bool (!b)))) s') E s) : wpAny (model prog w) A (Builtin.«object.__ne__» ⟨[.ref x, y], []⟩) Q E s := by
  unfold Builtin.«object.__ne__»
  repeat (first
    | with_reducible refine wpAny_cRoomFor hu ?_
    | (refine wpAny_bind (m := callSpecialIfBound? (.ref x) (Str.ofString "__eq__") [y])
        (PySem.W.ifBound_K X I hs hf (wpAny_mono h (fun r s' hr => by
          obtain ⟨b, rfl, hq⟩ := hr
          repeat (first | exact hq | exact wpAny_pure hq | exact wpAny_truthy_bool hq | (refine wpAny_bind (m := truthy (.bool _)) (wpAny_truthy_bool ?_)) | wp_step)) fun _ _ e => e)))
    | wp_step)
theorem ifBound_objNe {args : List Value} {Q : Option Value → Shared → Prop} (X : K.In s.heap) (I : PySem.W.InstAt s.heap x ox C od) (hs : PySem.W.findIn K (.ref C) "__ne__" = some (some (.builtin "object.__ne__")))
    (h : wpAny (model prog w) A (call (.builtin "object.__ne__") (.ref x :: args)) (fun v => Q (some v)) E s) : wpAny (model prog w) A (callSpecialIfBound? (.ref x) "__ne__" args) Q E s := by
  simp only [callSpecialIfBound?, bindSpecialIfBound?]
  refine wpAny_holding (wpAny_bind (wpAny_bind (wpAny_bind (I.type.here ((PySem.W.looks_findIn X hs).here ?_)))))
  refine wpAny_bind (wpAny_askSetting (wpAny_ite ?_))
  have fin : wpAny (model prog w) A (call (.builtin "object.__ne__") ([.ref x] ++ args) >>= fun v => pure (some v)) Q E s := wpAny_bind (wpAny_mono h (fun v s' h' => wpAny_pure h') fun _ _ h' => h')
  split
  · exact wpAny_bind (wpAny_of_eq (F.cmp_object.ne.bind _) (wpAny_pure (by exact fin)))
  · exact wpAny_tryCatch (wpAny_bind (wpAny_of_eq (F.cmp_object.ne.bind _) (wpAny_pure (by exact fin))))
/-- x != y, by the class's own __eq__ and object's __ne__ -/
theorem ne_own {Q : Value → Shared → Prop} (hu : A.units + 1 < cLine) (X : K.In s.heap) (I : PySem.W.InstAt s.heap x ox C od) (hb : PySem.W.Looks (model prog w) s.heap (typeOf y) tb) (hn : PySem.W.notFirst K C tb = true)
    (hm : PySem.W.mroIn K C (.type "object") = some true) (hs : PySem.W.findIn K (.ref C) "__eq__" = some (some (.ref f))) (hne : PySem.W.findIn K (.ref C) "__ne__" = some (some (.builtin "object.__ne__"))) (hf : PySem.W.isFn K (.ref f) = true)
    (h : wpAny (model prog w) A.in1 (call (.ref f) [.ref x, y]) (fun v s' => ∃ b, v = .bool b ∧ Q (.bool (!b)) s') E s) : wpAny (model prog w) A (richCompare .NotEq (.ref x) y) Q E s := by
  have one : wpAny (model prog w) A (tryCompare (.ref x) "__ne__" y) (fun r s' => ∃ v, r = some v ∧ Q v s') E s := by
    unfold tryCompare
    refine wpAny_bind (ifBound_objNe X I hne (wpAny_call (codeAny_call_builtin F.cmp_object.ne.plain F.cmpEntry_ne (PySem.W.check_slot F.cmpKind_ne F.cmpSplit_ne (I.type.andThen (PySem.W.looks_mroIn X hm)) (F.cmpArgs_ne _ _)
      (objNe_entry (A := A.in1) X I hs hf hu (wpAny_mono h (fun v s' hv => ?_) fun _ _ e => e))))))
    obtain ⟨b, rfl, hq⟩ := hv
    first | exact ⟨b, rfl, wpAny_pure ⟨_, rfl, hq⟩⟩ | exact ⟨b, rfl, wpAny_pure (wpAny_pure ⟨_, rfl, hq⟩)⟩ | exact ⟨b, rfl, ⟨_, rfl, hq⟩⟩
  unfold richCompare
  simp only [oneThing_ref]
  refine wpAny_holding (wpAny_bind (wpAny_cRoomFor (Nat.lt_of_succ_lt hu) ?_))
  rw [cmpInfo_NotEq]
  dsimp only
  refine wpAny_bind (I.type.here (wpAny_bind (hb.here ?_)))
  split
  · rename_i q
    have e : PySem.W.subIn K tb (.ref C) = some false := by
      rcases Bool.or_eq_true_iff.mp hn with e | e
      · rw [beq_iff_eq.mp e] at q; simp at q
      · exact beq_iff_eq.mp e
    refine wpAny_bind ((PySem.W.looks_subIn X e).here ?_)
    simp only [Bool.false_eq_true, if_false]
    refine wpAny_bind (wpAny_mono one (fun r s' z => ?_) fun _ _ e => e)
    obtain ⟨v, rfl, hq⟩ := z
    exact wpAny_pure hq
  · refine wpAny_bind (wpAny_pure ?_)
    simp only [Bool.false_eq_true, if_false]
    refine wpAny_bind (wpAny_mono one (fun r s' z => ?_) fun _ _ e => e)
    obtain ⟨v, rfl, hq⟩ := z
    exact wpAny_pure hq
end
end KX

set_option autoImplicit false
set_option maxRecDepth 100000
set_option maxHeartbeats 4000000
namespace KX
open PySem PySem.Spec PyProof.Rows L2
/-- what stands right of == and != -/
inductive OfTy (H : Hp) : V → Value → Prop
  | ins {b C dy : Addr} {gs : List (Str × V)} (e : H b = some (.ins C dy gs)) : OfTy H (.ref b) (.ref C)
  | lst {b : Addr} {xs : List V} (e : H b = some (.lst xs)) : OfTy H (.ref b) (.type "list")
/-- the class at C has its own def of this name at g -/
structure OwnDef (K : PySem.W.Frag) (C : Addr) (name : Str) (g : Addr) : Prop where
  at_ : PySem.W.findIn K (.ref C) name = some (some (.ref g))
  fn : PySem.W.isFn K (.ref g) = true
/-- the own def answers; what it answers is a truth value -/
def spB (sp : Sp) (E : XK) (neg : Bool) : List V → Hp → VK → Prop := fun vs H Q => sp vs H (fun z H' => ∃ b, z = .bl b ∧ Q (.bl (neg ^^ b)) H') E
def rInOwn (C : Addr) (sp : Sp) (E : XK) (neg : Bool) : R2 := fun x y H Q => ∃ a dx fs, y = .ref a ∧ H a = some (.ins C dx fs) ∧ spB sp E neg [y, x] H Q
def rEqOwn (K : PySem.W.Frag) (C : Addr) (sp : Sp) (E : XK) (neg : Bool) : R2 := fun x y H Q => ∃ a dx fs tb, x = .ref a ∧ H a = some (.ins C dx fs) ∧ OfTy H y tb ∧ PySem.W.notFirst K C tb = true ∧ spB sp E neg [x, y] H Q
def rLenOwn (C : Addr) (sp : Sp) (E : XK) : List V → Hp → VK → Prop := fun xs H Q => ∃ a dx fs, xs = [V.ref a] ∧ H a = some (.ins C dx fs) ∧ sp [.ref a] H (fun z H' => ∃ n : Nat, z = .int n ∧ n < 2 ^ 62 ∧ Q z H') E
section
variable {X : Cx} {CX : CXT} {C g : Addr} {n : Nat} {sp : Sp} {E : XK}
theorem OfTy.looks {pins : List (Addr × Obj)} {σ : L2.St} {H : Hp} {s : Shared} {y : V} {u tb : Value} (t : OfTy H y tb) (I : Inv X pins σ H s) (r : RelV y u) : PySem.W.Looks (model X.prog X.w) s.heap (typeOf u) tb := by
  cases t with
  | @ins b C dy gs e =>
    cases (show u = Value.ref b from r)
    obtain ⟨mA, J, _⟩ := ins_get I.hok e
    obtain ⟨od, J, _⟩ := J.look
    exact J.type
  | @lst b xs e =>
    cases (show u = Value.ref b from r)
    obtain ⟨_, _, n, _, h1⟩ := (show ObjOk X.prog X.w H s.heap b (.lst xs) from I.hok b _ e)
    exact (PySem.W.Looks.ld h1).andThen .now
theorem in_run {neg : Bool} (D : OwnDef X.K C "__contains__" g) (F : FnR X.prog X.w X.K X.mg X.base CX n g sp) (hr : Room n X.A) (hx : Passes CX X E) {pins : List (Addr × Obj)} {σ : L2.St} {H : Hp} {s : Shared} {x y : V} {v u : Value} {Q : VK}
    (I : Inv X pins σ H s) (rx : RelV x v) (ry : RelV y u) (h : rInOwn C sp E neg x y H Q) : wpAny (model X.prog X.w) X.A (contains u v) (fun b s' => EP X pins σ Q (.bool (neg ^^ b)) s') X.xe s := by
  obtain ⟨a, dx, fs, rfl, ha, q⟩ := h
  cases (show u = Value.ref a from ry)
  obtain ⟨mA, J, _⟩ := ins_get I.hok ha
  obtain ⟨od, J, _⟩ := J.look
  refine contains_own I.kIn J D.at_ D.fn (wpAny_call ?_)
  refine codeAny_mono (run_fnR (us := [.ref a, v]) (vs := [.ref a, x]) F hr hx I (.cons rfl (.cons rx .nil)) q) fun r s' z => ?_
  cases r with
  | error e => exact z
  | ok fl =>
    cases fl with
    | ret w =>
      obtain ⟨z', H', I', rz, b, ez, qz⟩ := z
      subst ez
      cases (show w = Value.bool b from rz)
      exact ⟨b, rfl, .bl (neg ^^ b), H', I', rfl, qz⟩
    | next => exact z
    | brk => exact z
    | cont => exact z
theorem op_inOwn (D : OwnDef X.K C "__contains__" g) (F : FnR X.prog X.w X.K X.mg X.base CX n g sp) (hr : Room n X.A) (hx : Passes CX X E) : OpR X (compareOp .In) (rInOwn C sp E false) := by
  intro pins s σ H x y v u Q I rx ry h
  show wpAny _ _ (do return Value.bool (← contains u v)) _ _ s
  exact wpAny_bind (wpAny_mono (in_run D F hr hx I rx ry h) (fun b s' z => wpAny_pure (by rw [Bool.false_xor] at z; exact z)) fun _ _ e => e)
theorem op_niOwn (D : OwnDef X.K C "__contains__" g) (F : FnR X.prog X.w X.K X.mg X.base CX n g sp) (hr : Room n X.A) (hx : Passes CX X E) : OpR X (compareOp .NotIn) (rInOwn C sp E true) := by
  intro pins s σ H x y v u Q I rx ry h
  show wpAny _ _ (do return Value.bool (!(← contains u v))) _ _ s
  exact wpAny_bind (wpAny_mono (in_run D F hr hx I rx ry h) (fun b s' z => wpAny_pure (by rw [Bool.true_xor] at z; exact z)) fun _ _ e => e)
theorem op_eqOwn (D : OwnDef X.K C "__eq__" g) (F : FnR X.prog X.w X.K X.mg X.base CX n g sp) (hr : Room n X.A) (hx : Passes CX X E) : OpR X (compareOp .Eq) (rEqOwn X.K C sp E false) := by
  intro pins s σ H x y v u Q I rx ry h
  obtain ⟨a, dx, fs, tb, rfl, ha, ty, hn, q⟩ := h
  cases (show v = Value.ref a from rx)
  obtain ⟨mA, J, _⟩ := ins_get I.hok ha
  obtain ⟨od, J, _⟩ := J.look
  obtain ⟨m, hF⟩ := I.fr
  show wpAny _ _ (richCompare .Eq (.ref a) u) _ _ s
  refine PySem.W.cmp_K (op := .Eq) (tb := tb) hr.units0 hF I.ok.mod.kin J (ty.looks I ry) hn D.at_ D.fn ?_
  refine wpAny_mono (wpAny_call (run_fnR (us := [.ref a, u]) (vs := [.ref a, y]) F hr hx I (.cons rfl (.cons ry .nil)) q)) (fun w s' z => ?_) fun _ _ x => x
  obtain ⟨z', H', I', rz, b, ez, qz⟩ := z
  subst ez
  cases (show w = Value.bool b from rz)
  exact ⟨.bl b, H', I', rfl, by rw [Bool.false_xor] at qz; exact qz⟩
theorem op_neOwn (D : OwnDef X.K C "__eq__" g) (hm : PySem.W.mroIn X.K C (.type "object") = some true) (hne : PySem.W.findIn X.K (.ref C) "__ne__" = some (some (.builtin "object.__ne__"))) (F : FnR X.prog X.w X.K X.mg X.base CX n g sp) (hr : Room (n + 1) X.A) (hx : Passes CX X E) :
    OpR X (compareOp .NotEq) (rEqOwn X.K C sp E true) := by
  intro pins s σ H x y v u Q I rx ry h
  obtain ⟨a, dx, fs, tb, rfl, ha, ty, hn, q⟩ := h
  cases (show v = Value.ref a from rx)
  obtain ⟨mA, J, _⟩ := ins_get I.hok ha
  obtain ⟨od, J, _⟩ := J.look
  show wpAny _ _ (richCompare .NotEq (.ref a) u) _ _ s
  refine ne_own (by have := hr.un; omega) I.kIn J (ty.looks I ry) hn hm D.at_ hne D.fn ?_
  refine wpAny_mono (wpAny_call (SlX.run_at (us := [.ref a, u]) (ws := [.ref a, y]) F hr.in1 I.env0.in1 hx I (.cons rfl (.cons ry .nil)) q)) (fun w s' z => ?_) fun _ _ x => x
  obtain ⟨z', H', I', rz, b, ez, qz⟩ := z
  subst ez
  cases (show w = Value.bool b from rz)
  exact ⟨b, rfl, .bl (!b), H', I', rfl, by rw [Bool.true_xor] at qz; exact qz⟩
theorem call_lenOwn (D : OwnDef X.K C "__len__" g) (F : FnR X.prog X.w X.K X.mg X.base CX n g sp) (hr : Room (n + 1) X.A) (hx : Passes CX X E) : CallR X (.builtin "len") (rLenOwn C sp E) := by
  intro pins s σ H xs us Q I r h
  obtain ⟨a, dx, fs, rfl, ha, q⟩ := h
  obtain ⟨u, rfl, ru⟩ := r.one
  cases (show u = Value.ref a from ru)
  obtain ⟨mA, J, _⟩ := ins_get I.hok ha
  obtain ⟨od, J, _⟩ := J.look
  refine len_own I.kIn J D.at_ D.fn (wpAny_mono (wpAny_call (SlX.run_at (us := [.ref a]) (ws := [.ref a]) F hr.in1 I.env0.in1 hx I (.cons rfl .nil) q)) (fun w s' z => ?_) fun _ _ x => x)
  obtain ⟨z', H', I', rz, k, ez, hk, qz⟩ := z
  subst ez
  obtain ⟨t, e⟩ := (show ∃ t, w = Value.int k t from rz)
  cases e
  exact ⟨k, t, rfl, by omega, by omega, fun tk => ⟨.int k, H', I'.tok _, ⟨tk, rfl⟩, qz⟩⟩
end
end KX

set_option autoImplicit false
set_option maxRecDepth 100000
set_option maxHeartbeats 4000000
namespace KX
open PySem PySem.Spec PyProof.Rows L2
section
variable {prog : Program} {w : World} {A : Around} {E : Value → Shared → Prop} {s : Shared} {K : PySem.W.Frag} {x C f : Addr} {ox : Obj} {od : Option Obj}
/-- str(x), by the class's own __str__ that answers a text -/
theorem str_own {Q : Value → Shared → Prop} (hu : A.units + 2 < cLine) (X : K.In s.heap) (I : PySem.W.InstAt s.heap x ox C od) (hs : PySem.W.findIn K (.ref C) "__str__" = some (some (.ref f))) (hf : PySem.W.isFn K (.ref f) = true)
    (h : wpAny (model prog w) A.in1.in1 (call (.ref f) [.ref x]) (fun r s₁ => ∃ z u, r = Value.str z u ∧ Q r s₁) E s) : wpAny (model prog w) A (call (.type "str") [.ref x]) Q E s := by
  refine callType_codes (T := "str") (Bi := Builtin.«object.__init__») (Q₁ := fun r s₁ => ∃ z u, r = Value.str z u ∧ Q r s₁) PySem.F.called_str (PySem.F.typeCall_str_1 _) PySem.F.entry_object_init ?_ ?_
  · refine codeAny_of_tree ?_
    show wpAny _ A.in1.in1 (do checkBuiltinCall "str.__new__" ⟨[.type "str", .ref x], []⟩; again (.builtin "str.__new__" ⟨[.type "str", .ref x], []⟩)) _ _ s
    refine wpAny_bind (wpAny_of_eq (PySem.F.newCall_str_1 _) (wpAny_pure ⟨plainId_quiet (by decide +kernel) _, codeAny_builtin PySem.F.entry_str_new ?_⟩))
    rw [Around.under_plainId (by decide +kernel) _, str_new_tree]
    refine wpAny_bind (wpAny_pure ?_)
    refine wpAny_bind (wpAny_of_eq isSubtype_str_str ?_)
    refine wpAny_bind ?_
    unfold Builtin.Str.strOf
    rw [show Builtin.Str.isExactStr (.ref x) = false from rfl]
    simp only [Bool.false_eq_true, if_false, pure_bind]
    refine wpAny_bind (wpAny_cRoomFor hu ?_)
    refine wpAny_bind (m := callSpecial? (.ref x) (Str.ofString "__str__")) (PySem.W.special_fn X I hs (beq_iff_eq.mp hf) (wpAny_mono h (fun r s' hr => ?_) fun _ _ y => y))
    obtain ⟨z, u, rfl, q⟩ := hr
    first | exact wpAny_pure (wpAny_pure ⟨z, u, rfl, q⟩) | exact wpAny_pure (wpAny_pure ⟨_, rfl, z, u, rfl, q⟩)
  · rintro obj s₁ ⟨n, u, rfl, hq⟩
    exact ⟨typeIs_str _ _ _, PySem.F.args_object_init_2 _ _, object_init_meets PySem.F.called_str.init.lookup PySem.F.called_str.made (by decide) prog w A.in1 _ s₁ ⟨typeIs_str _ _ _, rfl, hq⟩⟩
end
def rStrOwn (C : Addr) (sp : Sp) (E : XK) : List V → Hp → VK → Prop := fun xs H Q => ∃ a dx fs, xs = [V.ref a] ∧ H a = some (.ins C dx fs) ∧ sp [.ref a] H (fun z H' => ∃ t : Str, z = .str t ∧ Q z H') E
section
variable {X : Cx} {CX : CXT} {C g : Addr} {n : Nat} {sp : Sp} {E : XK}
theorem call_strOwn (D : OwnDef X.K C "__str__" g) (F : FnR X.prog X.w X.K X.mg X.base CX n g sp) (hr : Room (n + 2) X.A) (hx : Passes CX X E) : CallR X (.type "str") (rStrOwn C sp E) := by
  intro pins s σ H xs us Q I r h
  obtain ⟨a, dx, fs, rfl, ha, q⟩ := h
  obtain ⟨u, rfl, ru⟩ := r.one
  cases (show u = Value.ref a from ru)
  obtain ⟨mA, J, _⟩ := ins_get I.hok ha
  obtain ⟨od, J, _⟩ := J.look
  have hr2 : Room n X.A.in1.in1 := (show Room (n + 1) X.A.in1 from Room.in1 hr).in1
  refine str_own (by have := hr.un; omega) I.kIn J D.at_ D.fn (wpAny_mono (wpAny_call (SlX.run_at (us := [.ref a]) (ws := [.ref a]) F hr2 I.env0.in1.in1 hx I (.cons rfl .nil) q)) (fun w s' z => ?_) fun _ _ x => x)
  obtain ⟨z', H', I', rz, t, ez, qz⟩ := z
  subst ez
  obtain ⟨tk, e⟩ := (show ∃ tk, w = Value.str t tk from rz)
  cases e
  exact ⟨t, tk, rfl, .str t, H', I', ⟨tk, rfl⟩, qz⟩
end
end KX

set_option autoImplicit false
set_option maxRecDepth 100000
set_option maxHeartbeats 4000000
/-! defs that raise where nothing is handled: their exceptions have no context -/
namespace KX
open PySem PySem.Spec PyProof.Rows L2
theorem passLN {X : Cx} : Passes (L2N.CX X.prog X.w) X E0 := fun _ _ _ _ _ _ _ h => by
  obtain ⟨_, _, _, _, _, _, _, _, _, _, _, _, z⟩ := h
  exact z.elim
section
variable {P : Program} {w : World} {K : PySem.W.Frag} {mg : Str → Option Value} {base : Heap}
theorem okN {x qual : Str} {st : Stmt} {f : Addr} {fd : FuncData} {N ps : List Str} {k : Nat} {sp : Sp} (F : Fun K x qual st f fd) (S : FnScope N ps (defScope st)) (len : ∀ vs H Q E, sp vs H Q E → vs.length = ps.length)
    (hbody : ∀ (cdv : Value) (A : Around) (outer : List Env) (s : Shared) (H : Hp) (vs : List V) (Q : VK) (E : XK), Room k (A.deeper (envOfC qual (defScope st) s.heap.objs.size f cdv)) → sp vs H Q E →
      ∃ t, PSs (cxOf (L2N.CX P w) P w K mg base N qual (defScope st) f cdv A outer s H E) (defBody st) t ∧ t { nx := fun _ H' => Q .non H', rt := Q } (L2.start N vs) H) : FnOk P w K mg base (L2N.CX P w) (k + 1) f fd ps sp := by
  obtain ⟨oc, od, kV, doc, pm, an, cdv, ct, osl, rfl, lk, hcd⟩ := F.ex
  exact fn_of lk hcd S len fun A outer s H vs Q E hr hsp => hbody cdv A outer s H vs Q E hr hsp
end
end KX

set_option autoImplicit false
set_option maxRecDepth 100000
set_option maxHeartbeats 4000000
/-! {**a, **b, ..}: dicts put one behind the other into a new one -/
namespace KX
open PySem PySem.Spec PyProof.Rows L2
section
variable {prog : Program} {w : World} {κ : Type} [DecidableEq κ] {knd : KeyKind prog w κ} {A : Around} {E : Value → Shared → Prop} {s : Shared}
theorem put_pairs {d : Addr} {kvs : List (κ × Value)} {k : κ} {key v : Value} {Q : Unit → Shared → Prop} (hk : knd.is k key = true) (m : s.heap.DictOf knd d kvs)
    (few : kvs.length ≤ sizeLine) (q : ∀ h', h'.DictOf knd d (stored kvs k v) → Heap.SameBut d s.heap h' → Q () { s with heap := h' }) :
    wpAny (model prog w) A (dictPut d (knd.hash k) key v) Q E s := by
  obtain ⟨o, es, ep, ho, ex, dt, ks, ps, nd⟩ := m
  have z : es.size ≤ sizeLine := by
    have := ps.length
    rw [Array.length_toList] at this
    omega
  have same : (es.findIdx? fun e => knd.is k e.key) = kvs.findIdx? fun y => decide (y.1 = k) := by
    obtain ⟨l⟩ := es
    rw [← ps.findIdx k]
    simp
  unfold dictPut
  refine wpAny_bind (wpAny_dictFind_of hk ho dt ks ?_)
  cases e : es.findIdx? fun e => knd.is k e.key with
  | some i =>
    have there := any_of_findIdx_some (same ▸ e)
    refine wpAny_updateDict ho dt (q _ ⟨_, _, ep, Heap.get?_update_self _ ho (Obj.isFreed_of_dict (Obj.data_mapDict dt _)), ex.mapDict _, Obj.data_mapDict dt _, ks.modify _ _, ?_, ?_⟩ (Heap.SameBut.update ..))
    · unfold stored
      rw [if_pos there]
      have y := ps.modify nd (i := i) (k := k) (by rw [← e]; obtain ⟨l⟩ := es; simp) v
      obtain ⟨l⟩ := es
      simpa using y
    · unfold stored
      rw [if_pos there, keys_map_store]
      exact nd
  | none =>
    have new := not_mem_of_findIdx_none (same ▸ e)
    have absent : ¬ (kvs.any fun y => decide (y.1 = k)) = true := fun y => by
      obtain ⟨p, hp, e2⟩ := List.any_eq_true.mp y
      exact new (List.mem_map.mpr ⟨p, hp, of_decide_eq_true e2⟩)
    refine wpAny_updateDictKeys (hz := z) ho dt (q _ ⟨_, _, ep + 1, Heap.get?_update_self _ ho (Obj.isFreed_of_dict (Obj.data_mapDictKeys dt _)), ex.mapDictKeys _, Obj.data_mapDictKeys dt _, ks.push hk _, ?_, ?_⟩ (Heap.SameBut.update ..))
    · unfold stored
      rw [if_neg absent]
      have y := ps.append hk (knd.hash k) v
      obtain ⟨l⟩ := es
      simpa using y
    · unfold stored
      rw [if_neg absent, List.map_append, List.nodup_append]
      refine ⟨nd, by simp, fun x hx y hy => ?_⟩
      rw [List.map_cons, List.map_nil, List.mem_singleton] at hy
      rw [hy]
      intro e2
      rw [e2] at hx
      exact new hx
theorem merge_pairs {d a : Addr} {kvs more : List (κ × Value)} {Q : Unit → Shared → Prop} (ne : d ≠ a) (sy : (a == sysModules) = false) (md : s.heap.DictOf knd d kvs) (ma : s.heap.DictOf knd a more)
    (few : kvs.length + more.length ≤ sizeLine) (q : ∀ h', h'.DictOf knd d (merged kvs more) → h'.DictOf knd a more → Heap.SameBut d s.heap h' → Q () { s with heap := h' }) :
    wpAny (model prog w) A (mergeMapping d (.ref a) false) Q E s := by
  obtain ⟨o1, es1, ep1, ho1, ex1, dt1, ks1, ps1, nd1⟩ := id md
  obtain ⟨o2, es2, ep2, ho2, ex2, dt2, ks2, ps2, nd2⟩ := id ma
  have len : more.length = es2.size := by
    have := ps2.length
    rw [Array.length_toList] at this
    exact this.symm
  unfold mergeMapping
  refine wpAny_bind (wpAny_isInstance ma.typeIs isSubtype_dict_dict ?_)
  dsimp only
  rw [if_pos rfl]
  refine wpAny_bind (wpAny_specialOf ma.typeIs F.slot_dict_iter.lookup (wpAny_bind (wpAny_pure ?_)))
  rw [beq_self_eq_true]
  dsimp only
  rw [if_neg (by rw [sy]; exact Bool.false_ne_true)]
  refine wpAny_bind (wpAny_dictEntries ho1 dt1 ?_)
  have quiet : ∀ e ∈ es2.toList, ∀ b, e.key ≠ .ref b := fun e he b z => by
    obtain ⟨y, hy, _⟩ := ks2 e (Array.mem_toList_iff.mp he)
    have := knd.byValue y _ hy
    rw [z] at this
    cases this
  split
  case' isTrue =>
    refine wpAny_bind (wpAny_dictEntries ho2 dt2 (wpAny_bind ?_))
    refine wpAny_of_eq (a := PUnit.unit) (by
      rw [← Array.forIn_toList]
      refine forIn_yield_id _ fun e he u => ?_
      have := quiet e he
      split
      · rename_i b z
        exact absurd z (this b)
      · rfl) ?_
  all_goals
    refine wpAny_bind (wpAny_dictEntries ho2 dt2 (wpAny_bind (wpAny_dictEpoch ho2 dt2 (wpAny_bind ?_))))
    refine wpAny_forIn_list _ (fun rest _ s' => ∃ (h' : Heap) (i : Nat), s' = { s with heap := h' } ∧ rest = (List.range es2.size).drop i ∧ i ≤ es2.size ∧ h'.DictOf knd d (merged kvs (more.take i)) ∧ h'.get? a = some o2 ∧ Heap.SameBut d s.heap h')
      _ ?_ ?_ _ _ ⟨s.heap, 0, rfl, by simp, Nat.zero_le _, by simpa [merged] using md, ho2, Heap.SameBut.refl _ _⟩
    · rintro x rest u s' ⟨h', i, rfl, hr, hi, m1, g1, b1⟩
      have lt : i < es2.size := by
        rcases Nat.lt_or_ge i es2.size with y | y
        · exact y
        · rw [List.drop_eq_nil_of_le (by rw [List.length_range]; exact y)] at hr
          cases hr
      rw [List.drop_eq_getElem_cons (by rw [List.length_range]; exact lt), List.getElem_range] at hr
      obtain ⟨rfl, rfl⟩ := List.cons.inj hr
      refine wpAny_bind (wpAny_dictEntries g1 dt2 ?_)
      rw [Array.getElem?_eq_getElem lt]
      dsimp only
      have lm : x < more.length := by rw [len]; exact lt
      obtain ⟨hkey, hval⟩ := ps2.get? (e := es2[x]) (by simp [lt]) (List.getElem?_eq_getElem lm)
      obtain ⟨k', hk', hh⟩ := ks2 es2[x] (Array.getElem_mem lt)
      have same := knd.inj _ _ _ hk' hkey
      rw [if_neg Bool.false_ne_true, hh, hval, same]
      have z : (merged kvs (more.take x)).length ≤ sizeLine := by
        have y := merged_length_le kvs (more.take x)
        rw [List.length_take] at y
        omega
      refine wpAny_bind (wpAny_holding (put_pairs hkey m1 z fun h2 m2 b2 => ?_))
      have g2 : h2.get? a = some o2 := (b2.2 a ne.symm).trans g1
      refine wpAny_bind (wpAny_dictEpoch g2 dt2 ?_)
      rw [if_neg (by simp)]
      exact wpAny_pure ⟨h2, x + 1, rfl, rfl, lt, by rw [merged_take_succ kvs more x _ (List.getElem?_eq_getElem lm)]; exact m2, g2, b1.trans b2⟩
    · rintro u s' ⟨h', i, rfl, hr, hi, m1, g1, b1⟩
      have full : i = es2.size := by
        rcases Nat.lt_or_ge i es2.size with y | y
        · rw [List.drop_eq_getElem_cons (by rw [List.length_range]; exact y)] at hr
          cases hr
        · exact Nat.le_antisymm hi y
      rw [full, ← len, List.take_length] at m1
      exact wpAny_pure (q h' m1 ⟨o2, es2, ep2, g1, ex2, dt2, ks2, ps2, nd2⟩ b1)
end
end KX

set_option autoImplicit false
set_option maxRecDepth 100000
set_option maxHeartbeats 4000000
namespace KX
open PySem PySem.Spec PyProof.Rows L2
section
variable {prog : Program} {w : World} {κ : Type} [DecidableEq κ] {knd : KeyKind prog w κ} {A : Around} {E : Value → Shared → Prop} {s : Shared}
theorem display_stars (knd : KeyKind prog w κ) {vs : List (Sem Value)} {Q : Value → Shared → Prop} (some_ : vs ≠ []) (I : List (Sem Value) → Addr → Shared → Prop)
    (first : I vs s.heap.objs.size { s with heap := s.heap.push { cls := .type "dict", data := .dict #[] } })
    (step : ∀ v rest d s, I (v :: rest) d s → wpAny (model prog w) A v (fun m s1 => ∃ (a : Addr) (kvs more : List (κ × Value)), m = .ref a ∧ d ≠ a ∧ (a == sysModules) = false ∧ s1.heap.DictOf knd d kvs ∧ s1.heap.DictOf knd a more ∧ kvs.length + more.length ≤ sizeLine ∧
      ∀ h', h'.DictOf knd d (merged kvs more) → h'.DictOf knd a more → Heap.SameBut d s1.heap h' → I rest d { s1 with heap := h' }) E s)
    (fin : ∀ d s, I [] d s → Q (.ref d) s) : wpAny (model prog w) A (dictDisplay (vs.map fun v => (none, v))) Q E s := by
  unfold dictDisplay
  dsimp only
  refine wpAny_bind (wpAny_forIn_list _ (fun rest b s' => (b = (none, []) ∧ rest = (vs.map fun v => ((none : Option (Sem Value)), v)) ∧ s' = s) ∨ ∃ (d : Addr) (l : List (Sem Value)), b = (some d, []) ∧ rest = (l.map fun v => ((none : Option (Sem Value)), v)) ∧ I l d s') _ ?_ ?_ _ _ (.inl ⟨rfl, rfl, rfl⟩))
  · rintro ⟨x, v⟩ rest ⟨b1, b2⟩ s' h
    dsimp only
    rcases h with ⟨e, hr, rfl⟩ | ⟨d, l, e, hr, hI⟩
    · obtain ⟨rfl, rfl⟩ := Prod.mk.inj e
      cases vs with
      | nil => exact absurd rfl some_
      | cons u us =>
        rw [List.map_cons] at hr
        obtain ⟨h1, rfl⟩ := List.cons.inj hr
        obtain ⟨rfl, rfl⟩ := Prod.mk.inj h1
        dsimp only
        rw [if_pos (show ([] : List (Sem Value × Sem Value)).isEmpty = true from rfl)]
        refine wpAny_bind (wpAny_pure ?_)
        dsimp only
        refine wpAny_bind (wpAny_alloc ?_)
        refine wpAny_bind (wpAny_holding (wpAny_mono (step v us _ _ first) (fun m s1 hm => ?_) fun _ _ z => z))
        obtain ⟨a, kvs, more, rfl, ne, sy, m1, m2, few, q⟩ := hm
        exact wpAny_bind (wpAny_onRaise (wpAny_tryCatch (wpAny_onRaise (wpAny_holding (merge_pairs ne sy m1 m2 few fun h' x y z => wpAny_pure (.inr ⟨_, us, rfl, rfl, q h' x y z⟩))))))
    · obtain ⟨rfl, rfl⟩ := Prod.mk.inj e
      cases l with
      | nil => cases hr
      | cons u us =>
        rw [List.map_cons] at hr
        obtain ⟨h1, rfl⟩ := List.cons.inj hr
        obtain ⟨rfl, rfl⟩ := Prod.mk.inj h1
        dsimp only
        rw [if_pos (show ([] : List (Sem Value × Sem Value)).isEmpty = true from rfl)]
        refine wpAny_bind (wpAny_pure ?_)
        dsimp only
        refine wpAny_bind (wpAny_pure ?_)
        refine wpAny_bind (wpAny_holding (wpAny_mono (step v us _ _ hI) (fun m s1 hm => ?_) fun _ _ z => z))
        obtain ⟨a, kvs, more, rfl, ne, sy, m1, m2, few, q⟩ := hm
        exact wpAny_bind (wpAny_onRaise (wpAny_tryCatch (wpAny_onRaise (wpAny_holding (merge_pairs ne sy m1 m2 few fun h' x y z => wpAny_pure (.inr ⟨_, us, rfl, rfl, q h' x y z⟩))))))
  · rintro ⟨b1, b2⟩ s' h
    rcases h with ⟨e, hr, rfl⟩ | ⟨d, l, e, hr, hI⟩
    · cases vs with
      | nil => exact absurd rfl some_
      | cons u us => cases hr
    · obtain ⟨rfl, rfl⟩ := Prod.mk.inj e
      cases l with
      | cons u us => cases hr
      | nil =>
        dsimp only
        rw [if_pos (show ([] : List (Sem Value × Sem Value)).isEmpty = true from rfl)]
        exact wpAny_bind (wpAny_pure (wpAny_pure (fin d s' hI)))
end
end KX

set_option autoImplicit false
set_option maxRecDepth 100000
set_option maxHeartbeats 4000000
namespace KX
open PySem PySem.Spec PyProof.Rows L2
/-- the readings of values that are unpacked one behind the other -/
inductive PStars (X : Cx) : List Expr → List TE → Prop
  | nil : PStars X [] []
  | cons {e : Expr} {es : List Expr} {t : TE} {ts : List TE} : PE X e t → PStars X es ts → PStars X (e :: es) (t :: ts)
def tStarsL : List TE → Addr → List (Key × V) → L2.St → Hp → (List (Key × V) → Hp → Prop) → Prop
  | [], _, kvs, _, H, Q => Q kvs H
  | t :: ts, d, kvs, σ, H, Q => t σ H fun v H1 => ∃ (a : Addr) (more : List (Key × V)), v = .ref a ∧ d ≠ a ∧ H1 d = some (.dK kvs) ∧ H1 a = some (.dK more) ∧ kvs.length + more.length ≤ sizeLine ∧ tStarsL ts d (mergeK kvs more) σ (upd H1 d (.dK (mergeK kvs more))) Q
/-- {**a, **b, ..}: the new dict stands empty ahead of the first value -/
def tStars (ts : List TE) : TE := fun σ H Q => ∀ d, H d = none → tStarsL ts d [] σ (upd H d (.dK [])) fun kvs H1 => Q (.ref d) H1
section
variable {X : Cx} {pos : Pos}
theorem star_items (env : Env) (g : Sem Value → Sem Value) : ∀ es : List Expr, (evalEachOpt (es.map fun _ => none) env).zip ((evalEach es env).map g) = ((evalEach es env).map g).map fun v => ((none : Option (Sem Value)), v)
  | [] => rfl
  | e :: es => by
    show (none, g (eval e env)) :: (evalEachOpt (es.map fun _ => none) env).zip ((evalEach es env).map g) = (none, g (eval e env)) :: ((evalEach es env).map g).map fun v => ((none : Option (Sem Value)), v)
    rw [star_items env g es]
theorem pe_stars {keys : List (Option Expr)} {es : List Expr} {ts : List TE} (h : PStars X es ts) (hk : keys = es.map fun _ => none) (some_ : es ≠ []) : PE X (.Dict keys es pos) (tStars ts) := by
  subst hk
  refine ⟨fun pins s σ H Q I q => ?_⟩
  rw [arm_eval_Dict, star_items]
  refine wpAny_bind (wpAny_standAt ?_)
  have hn := I.hok.fresh (Nat.le_refl s.heap.objs.size)
  have I1 := I.laid (a := s.heap.objs.size) (o := .dK []) (h' := s.heap.push { cls := .type "dict", data := .dict #[] }) (t' := s.toks) (fun _ _ q => Heap.get?_push_of_some _ q) (Nat.le_refl _) (dk_empty s.heap I.big)
  refine display_stars (mixKind X.prog X.w) (by cases es with
      | nil => exact absurd rfl some_
      | cons e es => exact List.cons_ne_nil _ _)
    (fun l d s' => ∃ (es' : List Expr) (ts' : List TE) (kvs : List (Key × V)) (H' : Hp), l = (evalEach es' X.env).map (fun v => do let x ← v; standAt pos; pure x) ∧ PStars X es' ts' ∧ Inv X pins σ H' s' ∧ H' d = some (.dK kvs) ∧ tStarsL ts' d kvs σ H' fun kvs H1 => Q (.ref d) H1)
    ⟨es, ts, [], _, rfl, h, I1, upd_same, q _ hn⟩ ?_ ?_
  · rintro v rest d s' ⟨es', ts', kvs, H', hl, hp, I', hd, t⟩
    cases hp with
    | nil => cases hl
    | @cons e es' t' ts' he hp =>
      obtain ⟨rfl, rfl⟩ := List.cons.inj hl
      refine wpAny_bind (thn (he.run pins s' σ H' _ I' t) fun u s1 ⟨x, H1, I2, r, a, more, e1, ne, e2, e3, few, t2⟩ => ?_)
      subst e1
      obtain rfl : u = Value.ref a := r
      refine wpAny_bind (wpAny_standAt (wpAny_pure ?_))
      obtain ⟨z1, y1, vs1, r1, d1⟩ := dk_of I2.hok e2
      obtain ⟨z2, y2, vs2, r2, d2⟩ := dk_of I2.hok e3
      have l1 : kvs.length = vs1.length := Paired.length r1
      have l2 : more.length = vs2.length := Paired.length r2
      refine ⟨a, vs1, vs2, rfl, ne, y2, d1, d2, by omega, fun h' m1 m2 b => ?_⟩
      have few2 : (mergeK kvs more).length ≤ sizeLine := by
        have := length_mergeK more kvs
        omega
      refine ⟨es', ts', mergeK kvs more, _, rfl, hp, d_write I2 (by rw [e2]; exact True.intro) b (let ⟨q, _, _, hq, _⟩ := m1; ⟨q, hq⟩) (dk_new few2 y1 (r2.merge r1) m1), upd_same, t2⟩
  · rintro d s' ⟨es', ts', kvs, H', hl, hp, I', hd, t⟩
    cases hp with
    | nil => exact ⟨.ref d, H', I', rfl, t⟩
    | cons _ _ => cases hl
end
end KX

set_option autoImplicit false
set_option maxRecDepth 100000
set_option maxHeartbeats 6000000
/-! set(xs), xs a list or tuple of texts and ints, and its length -/
namespace KX
open PySem PySem.Spec PyProof.Rows L2
/-- each once, in the order in which they come first -/
def once {κ : Type} [DecidableEq κ] (ks : List κ) : List κ := ks.foldl (fun acc k => if k ∈ acc then acc else acc ++ [k]) []
theorem once_snoc {κ : Type} [DecidableEq κ] (ks : List κ) (k : κ) : once (ks ++ [k]) = if k ∈ once ks then once ks else once ks ++ [k] := by
  unfold once
  rw [List.foldl_append]
  rfl
theorem once_le {κ : Type} [DecidableEq κ] (ks : List κ) : (once ks).length ≤ ks.length := by
  have go : ∀ (l acc : List κ), (l.foldl (fun acc k => if k ∈ acc then acc else acc ++ [k]) acc).length ≤ acc.length + l.length := fun l => by
    induction l with
    | nil => exact fun acc => Nat.le_refl _
    | cons k l ih =>
      intro acc
      have y := ih (if k ∈ acc then acc else acc ++ [k])
      rw [List.foldl_cons, List.length_cons]
      by_cases m : k ∈ acc
      · rw [if_pos m] at y ⊢
        omega
      · rw [if_neg m] at y ⊢
        rw [List.length_append, List.length_singleton] at y
        omega
  have y := go ks []
  rw [List.length_nil, Nat.zero_add] at y
  exact y
section
variable {prog : Program} {w : World} {κ : Type} [DecidableEq κ] {knd : KeyKind prog w κ} {A : Around} {R : Result → Shared → Prop} {I : Addr} {fp wr : List Addr} {G : Array GenState → Array GenState → Prop} {n : Nat} {P : Nat → Value → Prop} {St : Nat → Shared → Prop}
theorem fill_set (W : WalksS prog w A.in1 I fp wr G n P St) (S : Addr) (out : S ∉ fp) (ks : List κ) (len : ks.length = n) (few : n + 1 < scanBound) (is : ∀ i v, P i v → ∃ k, ks[i]? = some k ∧ knd.is k v = true ∧ v.scannable = true) :
    ∀ (k i : Nat) (s : Shared), n - i = k → i ≤ n → St i s → s.heap.SetOf knd S (fun y => decide (y ∈ once (ks.take i))) (once (ks.take i)).length →
      (∀ s', Moved (S :: wr) G s s' → s'.heap.SetOf knd S (fun y => decide (y ∈ once ks)) (once ks).length → R (.ok (.ret .none)) s') →
      codeAny (model prog w) A (.builtin "set.update.loop" ⟨[.ref S, .ref I], []⟩) R s := by
  have out2 : S ∉ wr := fun h => out (W.sub _ h)
  have wider : ∀ b ∈ wr, b ∈ S :: wr := fun b hb => List.mem_cons_of_mem _ hb
  intro k
  induction k with
  | zero =>
    intro i s hk hi st hS hR
    obtain rfl : i = n := by omega
    refine codeAny_builtin PyProof.Rows.F.entry_set_update_loop ?_
    rw [Around.under_plainId PyProof.Rows.F.plain_set_update_loop _]
    show wpAny _ A.in1 (pyNext (.ref I) >>= _) _ _ s
    refine wpAny_bind (W.done s _ _ st fun s' mv => ?_)
    show wpAny _ A.in1 (ret Value.none) _ _ s'
    refine wpAny_pure (hR s' (mv.mono wider) ?_)
    rw [← len, List.take_length] at hS
    obtain ⟨o, es, ep, t, ho, y⟩ := hS
    exact ⟨o, es, ep, t, mv.heap S _ out2 ho, y⟩
  | succ k ih =>
    intro i s hk hi st hS hR
    have lt : i < n := by omega
    refine codeAny_builtin PyProof.Rows.F.entry_set_update_loop ?_
    rw [Around.under_plainId PyProof.Rows.F.plain_set_update_loop _]
    show wpAny _ A.in1 (pyNext (.ref I) >>= _) _ _ s
    refine wpAny_bind (W.item i s _ _ lt st fun v s' hP st' mv => ?_)
    obtain ⟨x, hx, hkey, sc⟩ := is i v hP
    have hS1 : s'.heap.SetOf knd S (fun y => decide (y ∈ once (ks.take i))) (once (ks.take i)).length := by
      obtain ⟨o, es, ep, t, ho, y⟩ := hS
      exact ⟨o, es, ep, t, mv.heap S _ out2 ho, y⟩
    show wpAny _ A.in1 (holding [v] (setAdd S v) >>= _) _ _ s'
    refine wpAny_bind (wpAny_holding ?_)
    unfold setAdd
    refine wpAny_holding (wpAny_bind (knd.pyHash hkey ?_))
    have small : (once (ks.take i)).length + 1 < scanBound := by
      have y := once_le (ks.take i)
      rw [List.length_take] at y
      omega
    refine wpAny_setAddHashed_of (knd := knd) (s := { s' with toks := s'.toks + 1 }) hkey sc hS1 small fun h' sb hS2 => ?_
    have hS3 : h'.SetOf knd S (fun y => decide (y ∈ once (ks.take (i + 1)))) (once (ks.take (i + 1))).length := by
      have e : ks.take (i + 1) = ks.take i ++ [x] := by rw [List.take_add_one, hx]; rfl
      refine SetOf_congr hS2 (fun y => ?_) ?_
      · rw [e, once_snoc]
        by_cases m : x ∈ once (ks.take i)
        · rw [if_pos m]
          by_cases z : y = x
          · rw [z, decide_eq_true m]
            rfl
          · rw [decide_eq_false z, Bool.or_false]
        · rw [if_neg m]
          by_cases z : y = x
          · rw [z]
            simp
          · simp [z]
      · rw [e, once_snoc]
        by_cases m : x ∈ once (ks.take i)
        · rw [if_pos m, if_pos (decide_eq_true m)]
        · rw [if_neg m, if_neg (by rw [decide_eq_false m]; exact Bool.false_ne_true)]
          simp
    refine wpAny_pure ⟨plainId_quiet PyProof.Rows.F.plain_set_update_loop _, ih (i + 1) _ (by omega) lt (W.frame _ s' _ _ st' (Nat.le_succ _) fun b hb o e => ?_) hS3 fun s'' mv2 hS4 => ?_⟩
    · rw [sb.2 b (fun z : b = S => out (by rw [← z]; exact hb))]
      exact e
    · refine hR s'' (Moved.trans W.gtrans ((mv.mono wider).then_heap (Nat.le_succ _) fun b o hb e => ?_) mv2) hS4
      rw [sb.2 b (fun z : b = S => hb (by rw [z]; exact List.mem_cons_self))]
      exact e
end
section
variable {prog : Program} {w : World} {A : Around} {E : Value → Shared → Prop} {s : Shared}
abbrev setNew (led : Bool) : Obj := { cls := .type "set", dict := none, data := .set #[] 0 (.fresh 0 0 led) }
theorem set_of_list {κ : Type} [DecidableEq κ] (knd : KeyKind prog w κ) {l : Addr} {items : Array Value} {ks : List κ} {Q : Value → Shared → Prop} (hh : A.handled = none) (seq : s.heap.IsList l items) (len : ks.length = items.size) (few : items.size + 1 < scanBound)
    (is : ∀ (i : Nat) (v : Value), items[i]? = some v → ∃ k, ks[i]? = some k ∧ knd.is k v = true ∧ v.scannable = true)
    (q : ∀ (h' : Heap) (tk : Nat), h'.SetOf knd s.heap.objs.size (fun y => decide (y ∈ once ks)) (once ks).length → (∀ b o, b < s.heap.objs.size → s.heap.get? b = some o → h'.get? b = some o) → Q (.ref s.heap.objs.size) { s with heap := h', toks := tk }) :
    wpAny (model prog w) A (call (.type "set") [.ref l]) Q E s := by
  obtain ⟨c0, t0, y_mro⟩ := PySem.F.called_set.mro
  have y_made := PySem.F.called_set.made
  have y_sub := PySem.F.called_set.sub
  refine wpAny_call (codeAny_of_tree ?_)
  show wpAny _ _ (callAny (.type "set") _) _ _ _
  refine wpAny_pure ⟨Code.quiet_builtin _ (by decide +kernel), codeAny_builtin PySem.F.entry_type_call ?_⟩
  rw [Around.under_plain (weight_type_call_type "set" [.ref l] []) rfl]
  have y_not := PySem.F.called_set.notType
  have y_can := PySem.F.called_set.canCreate
  have y_chk := PySem.F.typeCall_set_1 (.ref l)
  repeat (any_goals (first | assumption | wp_step))

  refine codeAny_mono (code_set_new_1 (.ref l) (E := E) (Q₁ := fun y s1 => ∃ led : Bool, y = .ref s.heap.objs.size ∧ s1 = { s with heap := s.heap.push (setNew led) }) fun led => ⟨led, rfl, rfl⟩) fun r s1 hr => ?_
  match r, hr with
  | .error e, hr => exact hr
  | .ok .next, hr => exact hr.elim
  | .ok .brk, hr => exact hr.elim
  | .ok .cont, hr => exact hr.elim
  | .ok (.ret y), hr =>
    obtain ⟨led, rfl, rfl⟩ := hr
    have hS : (s.heap.push (setNew led)).get? s.heap.objs.size = some (setNew led) := Heap.get?_push_size _ rfl
    have hT : Shared.TypeIs { s with heap := s.heap.push (setNew led) } (.ref s.heap.objs.size) "set" := ⟨_, hS, rfl⟩
    have y_look := PySem.F.called_set.init.lookup
    have y_bind := PySem.F.called_set.init.bind (.ref s.heap.objs.size)
    repeat (any_goals (first | assumption | wp_step))

    refine codeAny_mono (codeAny_call_builtin (R := wants (fun r s2 => r = .none ∧ ∃ h' tk, s2 = { s with heap := h', toks := tk } ∧ h'.SetOf knd s.heap.objs.size (fun y => decide (y ∈ once ks)) (once ks).length ∧
        (∀ b o, b < s.heap.objs.size → s.heap.get? b = some o → h'.get? b = some o)) E) PySem.F.called_set.init.plain PySem.F.entry_set_init (check_set_init_1 hT ?_)) fun r2 s2 hr2 => ?_
    · obtain ⟨ol, hol, oc, nl, od⟩ := seq
      obtain ⟨o1, o2, o3, o4⟩ := ol
      dsimp only at oc od
      subst oc od
      have there : (s.heap.push (setNew led)).get? l = some { cls := .type "list", dict := o2, data := .seq items nl, slots := o4 } := Heap.get?_push_of_some _ hol
      have y_s1 := PySem.F.sub_list_set
      have y_s2 := PySem.F.sub_list_frozenset
      have y_ne : (Value.type "list" == Value.type "dict") = false := by decide
      have seq1 : (s.heap.push (setNew led)).IsList l items := ⟨_, there, rfl, nl, rfl⟩
      unfold Builtin.«set.__init__» noKeywords Builtin.Frozenset.updateFrom
      generalize y_it : pyIter = PI
      wp_walk
      subst y_it

      refine wpAny_pyIter_list seq1 (wpAny_bind (wpAny_runValue ?_))
      have low : l < s.heap.objs.size := Heap.lt_size hol
      have hh3 : A.in1.in1.in1.handled = none := by simp [hh]
      have apart : l ≠ (s.heap.push (setNew led)).objs.size := by
        rw [Heap.size_push]
        exact Nat.ne_of_lt (Nat.lt_succ_of_lt low)
      have out : s.heap.objs.size ∉ [(s.heap.push (setNew led)).objs.size, l] := by
        intro z
        rw [Heap.size_push] at z
        rcases List.mem_cons.mp z with z | z
        · exact absurd z (Nat.ne_of_lt (Nat.lt_succ_self _))
        · exact absurd (List.mem_singleton.mp z).symm (Nat.ne_of_lt low)
      refine fill_set (knd := knd) ((Walks.list hh3 _ l apart items).toS) s.heap.objs.size out ks len few (fun i v hv => is i v hv) (items.size - 0) 0 _ (by omega) (Nat.zero_le _) ⟨⟨_, Heap.get?_push_size _ rfl, rfl, rfl⟩, (seq1.push _)⟩ ?_ ?_
      · have got : ((s.heap.push (setNew led)).push { cls := .type "list_iterator", data := .fields #[.ref l, .int 0 0] }).get? s.heap.objs.size = some (setNew led) := Heap.get?_push_of_some _ hS
        exact SetOf_congr ((PyProof.Rows.setObjOf_fresh (knd := knd) led).setOf got (by unfold scanBound; omega)) (fun _ => rfl) rfl
      · rintro ⟨h', g', d', tk', os'⟩ mv hS2
        obtain rfl : g' = s.gens := mv.gens
        obtain rfl : d' = s.drawn := mv.drawn
        obtain rfl : os' = s.os := mv.os
        show wpAny _ _ _ _ _ _
        refine wpAny_pure ?_
        show wpAny _ _ (ret Value.none) _ _ _
        refine wpAny_pure ⟨rfl, h', tk', rfl, hS2, fun b o hb e => mv.heap b o (fun z => ?_) (Heap.get?_push_of_some _ (Heap.get?_push_of_some _ e))⟩
        simp only [List.mem_cons, List.not_mem_nil, or_false, Heap.size_push] at z
        rcases z with z | z
        · exact absurd z (Nat.ne_of_lt hb)
        · exact absurd z (Nat.ne_of_lt (Nat.lt_succ_of_lt hb))
    · match r2, hr2 with
      | .error e, hr2 => exact hr2
      | .ok .next, hr2 => exact hr2.elim
      | .ok .brk, hr2 => exact hr2.elim
      | .ok .cont, hr2 => exact hr2.elim
      | .ok (.ret r), hr2 =>
        obtain ⟨rfl, h', tk, rfl, hS2, kp⟩ := hr2
        repeat (any_goals (first | assumption | wp_step))
        exact q _ _ hS2 kp
theorem set_of_tuple {κ : Type} [DecidableEq κ] (knd : KeyKind prog w κ) {l : Addr} {items : Array Value} {ks : List κ} {Q : Value → Shared → Prop} (hh : A.handled = none) (seq : s.heap.IsTuple l items) (len : ks.length = items.size) (few : items.size + 1 < scanBound)
    (is : ∀ (i : Nat) (v : Value), items[i]? = some v → ∃ k, ks[i]? = some k ∧ knd.is k v = true ∧ v.scannable = true)
    (q : ∀ (h' : Heap) (tk : Nat), h'.SetOf knd s.heap.objs.size (fun y => decide (y ∈ once ks)) (once ks).length → (∀ b o, b < s.heap.objs.size → s.heap.get? b = some o → h'.get? b = some o) → Q (.ref s.heap.objs.size) { s with heap := h', toks := tk }) :
    wpAny (model prog w) A (call (.type "set") [.ref l]) Q E s := by
  obtain ⟨c0, t0, y_mro⟩ := PySem.F.called_set.mro
  have y_made := PySem.F.called_set.made
  have y_sub := PySem.F.called_set.sub
  refine wpAny_call (codeAny_of_tree ?_)
  show wpAny _ _ (callAny (.type "set") _) _ _ _
  refine wpAny_pure ⟨Code.quiet_builtin _ (by decide +kernel), codeAny_builtin PySem.F.entry_type_call ?_⟩
  rw [Around.under_plain (weight_type_call_type "set" [.ref l] []) rfl]
  have y_not := PySem.F.called_set.notType
  have y_can := PySem.F.called_set.canCreate
  have y_chk := PySem.F.typeCall_set_1 (.ref l)
  repeat (any_goals (first | assumption | wp_step))

  refine codeAny_mono (code_set_new_1 (.ref l) (E := E) (Q₁ := fun y s1 => ∃ led : Bool, y = .ref s.heap.objs.size ∧ s1 = { s with heap := s.heap.push (setNew led) }) fun led => ⟨led, rfl, rfl⟩) fun r s1 hr => ?_
  match r, hr with
  | .error e, hr => exact hr
  | .ok .next, hr => exact hr.elim
  | .ok .brk, hr => exact hr.elim
  | .ok .cont, hr => exact hr.elim
  | .ok (.ret y), hr =>
    obtain ⟨led, rfl, rfl⟩ := hr
    have hS : (s.heap.push (setNew led)).get? s.heap.objs.size = some (setNew led) := Heap.get?_push_size _ rfl
    have hT : Shared.TypeIs { s with heap := s.heap.push (setNew led) } (.ref s.heap.objs.size) "set" := ⟨_, hS, rfl⟩
    have y_look := PySem.F.called_set.init.lookup
    have y_bind := PySem.F.called_set.init.bind (.ref s.heap.objs.size)
    repeat (any_goals (first | assumption | wp_step))

    refine codeAny_mono (codeAny_call_builtin (R := wants (fun r s2 => r = .none ∧ ∃ h' tk, s2 = { s with heap := h', toks := tk } ∧ h'.SetOf knd s.heap.objs.size (fun y => decide (y ∈ once ks)) (once ks).length ∧
        (∀ b o, b < s.heap.objs.size → s.heap.get? b = some o → h'.get? b = some o)) E) PySem.F.called_set.init.plain PySem.F.entry_set_init (check_set_init_1 hT ?_)) fun r2 s2 hr2 => ?_
    · obtain ⟨ol, hol, oc, nl, od⟩ := seq
      obtain ⟨o1, o2, o3, o4⟩ := ol
      dsimp only at oc od
      subst oc od
      have there : (s.heap.push (setNew led)).get? l = some { cls := .type "tuple", dict := o2, data := .seq items nl, slots := o4 } := Heap.get?_push_of_some _ hol
      have y_s1 := PySem.F.sub_tuple_set
      have y_s2 := PySem.F.sub_tuple_frozenset
      have y_ne : (Value.type "tuple" == Value.type "dict") = false := by decide
      have seq1 : (s.heap.push (setNew led)).IsTuple l items := ⟨_, there, rfl, nl, rfl⟩
      unfold Builtin.«set.__init__» noKeywords Builtin.Frozenset.updateFrom
      generalize y_it : pyIter = PI
      wp_walk
      subst y_it

      refine wpAny_pyIter_tuple seq1 (wpAny_bind (wpAny_runValue ?_))
      have low : l < s.heap.objs.size := Heap.lt_size hol
      have hh3 : A.in1.in1.in1.handled = none := by simp [hh]
      have apart : l ≠ (s.heap.push (setNew led)).objs.size := by
        rw [Heap.size_push]
        exact Nat.ne_of_lt (Nat.lt_succ_of_lt low)
      have out : s.heap.objs.size ∉ [(s.heap.push (setNew led)).objs.size, l] := by
        intro z
        rw [Heap.size_push] at z
        rcases List.mem_cons.mp z with z | z
        · exact absurd z (Nat.ne_of_lt (Nat.lt_succ_self _))
        · exact absurd (List.mem_singleton.mp z).symm (Nat.ne_of_lt low)
      refine fill_set (knd := knd) ((Walks.tuple hh3 _ l apart items).toS) s.heap.objs.size out ks len few (fun i v hv => is i v hv) (items.size - 0) 0 _ (by omega) (Nat.zero_le _) ⟨⟨_, Heap.get?_push_size _ rfl, rfl, rfl⟩, (seq1.push _)⟩ ?_ ?_
      · have got : ((s.heap.push (setNew led)).push { cls := .type "tuple_iterator", data := .fields #[.ref l, .int 0 0] }).get? s.heap.objs.size = some (setNew led) := Heap.get?_push_of_some _ hS
        exact SetOf_congr ((PyProof.Rows.setObjOf_fresh (knd := knd) led).setOf got (by unfold scanBound; omega)) (fun _ => rfl) rfl
      · rintro ⟨h', g', d', tk', os'⟩ mv hS2
        obtain rfl : g' = s.gens := mv.gens
        obtain rfl : d' = s.drawn := mv.drawn
        obtain rfl : os' = s.os := mv.os
        show wpAny _ _ _ _ _ _
        refine wpAny_pure ?_
        show wpAny _ _ (ret Value.none) _ _ _
        refine wpAny_pure ⟨rfl, h', tk', rfl, hS2, fun b o hb e => mv.heap b o (fun z => ?_) (Heap.get?_push_of_some _ (Heap.get?_push_of_some _ e))⟩
        simp only [List.mem_cons, List.not_mem_nil, or_false, Heap.size_push] at z
        rcases z with z | z
        · exact absurd z (Nat.ne_of_lt hb)
        · exact absurd z (Nat.ne_of_lt (Nat.lt_succ_of_lt hb))
    · match r2, hr2 with
      | .error e, hr2 => exact hr2
      | .ok .next, hr2 => exact hr2.elim
      | .ok .brk, hr2 => exact hr2.elim
      | .ok .cont, hr2 => exact hr2.elim
      | .ok (.ret r), hr2 =>
        obtain ⟨rfl, h', tk, rfl, hS2, kp⟩ := hr2
        repeat (any_goals (first | assumption | wp_step))
        exact q _ _ hS2 kp
end
end KX

set_option autoImplicit false
set_option maxRecDepth 100000
set_option maxHeartbeats 4000000
namespace KX
open PySem PySem.Spec PyProof.Rows L2
theorem strs_vals : ∀ {zs : List Str} {us : List Value}, Vals (zs.map V.str) us → ∀ (i : Nat) (u : Value), us[i]? = some u → ∃ (z : Str) (t : Tok), zs[i]? = some z ∧ u = .str z t
  | [], _, .nil, i, u, h => by simp at h
  | z :: zs, _, .cons r t, 0, u, h => by
    obtain ⟨k, e⟩ := r
    rw [List.getElem?_cons_zero] at h
    cases h
    exact ⟨z, k, rfl, e⟩
  | z :: zs, _, .cons r t, i + 1, u, h => by
    rw [List.getElem?_cons_succ] at h
    obtain ⟨y, k, e1, e2⟩ := strs_vals t i u h
    exact ⟨y, k, by rw [List.getElem?_cons_succ]; exact e1, e2⟩
/-- len(set(words)) -/
def tLenWords (K : PySem.W.Frag) (ta : TE) : TE := fun σ H Q => ta σ H fun x H1 => ∃ (l : Addr) (zs : List Str), x = .ref l ∧ (SqL K H1 l (zs.map V.str) ∨ SqT K H1 l (zs.map V.str)) ∧ zs.length ≤ 1000 ∧ Q (.int ((once zs).length : Nat)) H1
theorem pe_lenWords {X : Cx} {a : Expr} {ta : TE} {p p2 q pos : Pos} (hg : Gl X "len") (hm : X.mg "len" = none) (hg2 : Gl X "set") (hm2 : X.mg "set" = none) (ha : PE X a ta) (hc : X.calm = true := by rfl)
    (na : starEach [a] X.env = (false, eval a X.env) :: starEach [] X.env := by rfl) : PE X (.Call (.Name "len" p) [.Call (.Name "set" p2) [a] [] q] [] pos) (tLenWords X.K ta) := by
  refine ⟨fun pins s σ H Q I h => ?_⟩
  refine Call_ (ld_blt I hg hm boot_len (PyProof.Rows.callWith_builtin1 (PyProof.Rows.args_cons ?_ rfl) rfl rfl))
  refine Call_ (ld_blt I hg2 hm2 boot_set ?_)
  refine PyProof.Rows.callWith_type1 (PyProof.Rows.args_cons (thn (ha.run pins s σ H _ I h) fun v s1 ⟨x, H1, I1, r1, q1⟩ => PyProof.Rows.args_nil ?_) na) na rfl
  obtain ⟨l, zs, rfl, hq, few, q1⟩ := q1
  obtain rfl : v = Value.ref l := r1
  have last : ∀ (h' : Heap) (tk : Nat), h'.SetOf (PySem.strKind X.prog X.w) s1.heap.objs.size (fun y => decide (y ∈ once zs)) (once zs).length → (∀ b o, b < s1.heap.objs.size → s1.heap.get? b = some o → h'.get? b = some o) →
      wpAny (model X.prog X.w) X.A (spliced (backTo pos (starEach [] X.env))) (fun vs s2 => wpAny (model X.prog X.w) X.A (call (.builtin "len") (Value.ref s1.heap.objs.size :: vs)) (EP X pins σ Q) X.xe s2) X.xe { s1 with heap := h', toks := tk } := fun h' tk y kp => by
    refine PyProof.Rows.args_nil ?_
    obtain ⟨o, es, ep, t, ho, hex, hd, _, _, _, hf, hn⟩ := y
    have I2 : Inv X pins σ H1 { s1 with heap := h', toks := tk } := I1.kept fun b o e => kp b o (Heap.lt_size e) e
    have le := once_le zs
    exact call_len_set ho hex hd hf (by rw [hn]; omega) ⟨.int (once zs).length, H1, I2.tok _, ⟨_, by rw [hn]⟩, q1⟩
  rcases hq with hq | hq
  · obtain ⟨its, r, pl, hz⟩ := I1.list hq
    have ln : zs.length = its.length := by have := Paired.length r; rw [List.length_map] at this; exact this
    refine set_of_list (PySem.strKind X.prog X.w) (ks := zs) (I1.ok.hd hc) pl.isList (by rw [List.size_toArray]; exact ln) (by rw [List.size_toArray]; unfold scanBound; omega) (fun i u hu => ?_) last
    obtain ⟨z, t, e1, rfl⟩ := strs_vals r i u (by rw [← List.getElem?_toArray]; exact hu)
    exact ⟨z, e1, strKind_is _ _ _ _, rfl⟩
  · obtain ⟨its, r, pl, hz⟩ := I1.tuple hq
    have ln : zs.length = its.length := by have := Paired.length r; rw [List.length_map] at this; exact this
    refine set_of_tuple (PySem.strKind X.prog X.w) (ks := zs) (I1.ok.hd hc) pl (by rw [List.size_toArray]; exact ln) (by rw [List.size_toArray]; unfold scanBound; omega) (fun i u hu => ?_) last
    obtain ⟨z, t, e1, rfl⟩ := strs_vals r i u (by rw [← List.getElem?_toArray]; exact hu)
    exact ⟨z, e1, strKind_is _ _ _ _, rfl⟩
end KX

set_option autoImplicit false
set_option maxRecDepth 100000
set_option maxHeartbeats 4000000
/-! tuple(d), d a dict -/
namespace KX
open PySem PySem.Spec PyProof.Rows L2
section
variable {prog : Program} {w : World} {A : Around} {E : Value → Shared → Prop} {s : Shared} {r d : Addr} {n : Nat} {P : Nat → Value → Prop} {OK : Heap → Prop}
theorem collect_src {T : String} {Q : List Value → Shared → Prop} (S : PySem.W.KdlSrc prog w T r d n P OK) (hh : A.handled = none) (ok : OK s.heap) (few : n ≤ sizeLine)
    (q : ∀ (h' : Heap) (tk : Nat) (acc : Array Value), (∀ b o, s.heap.get? b = some o → h'.get? b = some o) → ItemsOf P acc n → Q acc.toList { s with heap := h', toks := tk }) : wpAny (model prog w) A (collect (.ref r)) Q E s := by
  have lt := S.there _ ok
  unfold collect
  refine wpAny_bind (wpAny_runValue (codeAny_builtin F.entry_proto_collect ?_))
  rw [Around.under_plainId F.plain_proto_collect _]
  show wpAny _ A.in1 (newList [] >>= fun y => again (.builtin "list.__iadd__" ⟨[y, .ref r], []⟩)) _ _ s
  refine wpAny_bind (wpAny_newObj_type (wpAny_pure ⟨plainId_quiet F.plain_list_iadd _, codeAny_builtin F.entry_list_iadd ?_⟩))
  rw [Around.under_plainId F.plain_list_iadd _]
  show wpAny _ A.in1 (Builtin.List.listExtendWith (.ref s.heap.objs.size) (.ref r) (.ref s.heap.objs.size)) _ _ _
  have new : (s.heap.push { cls := .type "list", data := .seq ([] : List Value).toArray }).get? s.heap.objs.size = some { cls := .type "list", data := .seq #[] 0 } := Heap.get?_push_size _ rfl
  refine wpAny_mono (PySem.W.kdl_extend (A := A) (s := { s with heap := s.heap.push { cls := .type "list", data := .seq ([] : List Value).toArray } })
    (R := fun y s' => y = .ok (.ret (.ref s.heap.objs.size)) ∧ ∃ (h' : Heap) (tk : Nat) (acc : Array Value) (c : Nat), s' = { s with heap := h', toks := tk } ∧ (∀ b o, s.heap.get? b = some o → h'.get? b = some o) ∧ h'.get? s.heap.objs.size = some { cls := .type "list", dict := none, data := .seq acc c, slots := #[] } ∧ ItemsOf P acc n)
    S hh (S.keep _ _ ok fun b _ o e => Heap.get?_push_of_some _ e) s.heap.objs.size (Nat.ne_of_gt lt.1) (Nat.ne_of_gt lt.2) (.ref s.heap.objs.size) 0 new
    (fun h' tk acc c kp e it => ⟨rfl, h', tk, acc, c, rfl, fun b o z => kp b o (Nat.ne_of_lt (Heap.lt_size z)) (Heap.get?_push_of_some _ z), e, it⟩) few) (fun fin s' h => ?_) (fun e s' h => absurd h.1 (by simp))
  have last : ∀ s'', (∃ (h' : Heap) (tk : Nat) (acc : Array Value) (c : Nat), s'' = { s with heap := h', toks := tk } ∧ (∀ b o, s.heap.get? b = some o → h'.get? b = some o) ∧ h'.get? s.heap.objs.size = some { cls := .type "list", dict := none, data := .seq acc c, slots := #[] } ∧ ItemsOf P acc n) →
      wpAny (model prog w) A (match Value.ref s.heap.objs.size with
        | Value.ref a => do
          match (← load a).data with
            | Data.seq xs _ => pure xs.toList
            | _ => unsupported "internal:collect"
        | _ => unsupported "internal:collect") Q E s'' := fun s'' y => by
    obtain ⟨h', tk, acc, c, rfl, kp, e, it⟩ := y
    exact wpAny_bind (wpAny_load e (wpAny_pure (q h' tk acc kp it)))
  cases fin with
  | done f =>
    obtain ⟨e, y⟩ := h
    cases e
    exact last _ y
  | again c' =>
    refine ⟨h.1, codeAny_mono h.2 fun z s'' y => ?_⟩
    obtain ⟨rfl, y⟩ := y
    exact last _ y
theorem new_tuple_src {T : String} {Q : Value → Shared → Prop} (S : PySem.W.KdlSrc prog w T r d n P OK) (hh : A.handled = none) (ok : OK s.heap) (few : n ≤ sizeLine) (nt : T ≠ "tuple")
    (q : ∀ (h' : Heap) (tk : Nat) (acc : Array Value), (∀ b o, s.heap.get? b = some o → h'.get? b = some o) → ItemsOf P acc n → Q (.ref h'.objs.size) { s with heap := h'.push { cls := .type "tuple", data := .seq acc }, toks := tk }) :
    codeAny (model prog w) A (.call (.builtin "tuple.__new__") ⟨[.type "tuple", .ref r], []⟩) (wants Q E) s := by
  refine codeAny_of_tree ?_
  show wpAny _ A.in1 (do checkBuiltinCall "tuple.__new__" ⟨[.type "tuple", .ref r], []⟩; again (.builtin "tuple.__new__" ⟨[.type "tuple", .ref r], []⟩)) _ _ s
  refine wpAny_bind (wpAny_of_eq (F.newCall_tuple_1 _) (wpAny_pure ⟨plainId_quiet F.plain_tuple_new _, codeAny_builtin F.entry_tuple_new ?_⟩))
  rw [Around.under_plainId F.plain_tuple_new _]
  have y1 := sub_tuple_self
  have y2 := init_tuple_lookup
  have y3 := madeHere_tuple
  have ty : s.TypeIs (.ref r) T := S.type _ ok
  have hh1 : A.in1.handled = none := hh
  have ne : (Value.type T == Value.type "tuple") = false := by
    rw [beq_eq_false_iff_ne]
    exact fun z => nt (Value.type.inj z)
  wp_walk using wpAny_typeOf ty, collect_src (A := A.in1) S hh1 ok few
  intro h' tk acc kp it
  have same : acc.toList.toArray = acc := by simp
  show wpAny _ _ (Builtin.Tuple.tupleExact acc.toList.toArray >>= fun v => ret v) _ _ _
  rw [same]
  unfold Builtin.Tuple.tupleExact
  exact wpAny_bind (wpAny_newObj_type (wpAny_pure (q h' tk acc kp it)) (by show acc.size ≤ sizeLine; rw [it.1]; exact few))
end
/-- tuple(d): the keys -/
def rTupD : List V → Hp → VK → Prop := fun xs H Q => ∃ p kvs, xs = [.ref p] ∧ H p = some (.dK kvs) ∧ ∀ q, H q = none → Q (.ref q) (upd H q (.tup (kvs.map fun kv => kV kv.1)))
theorem call_tuple_dK {X : Cx} (hc : X.calm = true) : CallR X (.type "tuple") rTupD := by
  intro pins s σ H xs us Q I r h
  obtain ⟨p, kvs, rfl, e, q⟩ := h
  obtain ⟨u, rfl, rx⟩ := vals1 r
  obtain rfl : u = Value.ref p := rx
  obtain ⟨few, lo, vs, rk, dd⟩ := dk_of I.hok e
  obtain ⟨ep, dat⟩ := dd.dictAt
  have ln : kvs.length = vs.length := Paired.length rk
  refine callType_codes (Q₁ := fun y s1 => s1.TypeIs y "tuple" ∧ EP X pins σ Q y s1) F.called_tuple (F.typeCall_tuple_1 _) F.entry_object_init
    (new_tuple_src (A := X.A.in1) (PySem.W.kdl_dict (knd := mixKind X.prog X.w) (kvs := vs) (ep := ep) lo) (I.ok.hd hc) dat (by omega) (by decide) fun h' tk acc kp it => ⟨⟨_, Heap.get?_push_size _ rfl, rfl⟩, ?_⟩) fun y s1 h1 =>
      ⟨h1.1, F.args_object_init_2 y _, object_init_meets F.called_tuple.init.lookup F.called_tuple.made (by decide) X.prog X.w X.A.in1 _ s1 ⟨h1.1, rfl, h1.2⟩⟩
  have I1 : Inv X pins σ H { s with heap := h', toks := tk } := I.kept kp
  refine ⟨.ref h'.objs.size, _, I1.laid (a := h'.objs.size) (o := .tup (kvs.map fun kv => kV kv.1)) (h' := h'.push { cls := .type "tuple", data := .seq acc }) (t' := tk) (fun b o z => Heap.get?_push_of_some _ z) (Nat.le_refl _) ⟨?_, acc.toList, ?_, ?_⟩, rfl, q _ (I1.hok.fresh (Nat.le_refl _))⟩
  · rw [List.length_map]
    exact few
  · have la : acc.toList.length = acc.size := by simp
    refine vals_of_at (by rw [List.length_map, la, it.1, ln]) fun j y z h1 h2 => ?_
    obtain ⟨k, v, hk, hi⟩ := it.2 j z (by rw [← Array.getElem?_toList]; exact h2)
    have e1 : (kvs.map (·.1))[j]? = some k := by
      rw [KV.keys rk, List.getElem?_map, hk]
      rfl
    rw [List.getElem?_map] at e1 h1
    obtain ⟨p1, hp, rfl⟩ := Option.map_eq_some_iff.mp e1
    rw [hp] at h1
    cases h1
    exact keyIs_rel hi
  · have same : acc.toList.toArray = acc := by simp
    rw [same]
    exact IsTup.new _ _
end KX

set_option maxRecDepth 100000
set_option maxHeartbeats 4000000
namespace K02
open PySem PySem.Spec PyProof.Rows L2
theorem scIsName : FnScope ["value", "letter"] ["value"] (defScope sIsName) :=
  ⟨rfl, rfl, rfl, by decide +kernel, rfl, by decide +kernel, by decide +kernel⟩
theorem same_upd {H : Hp} {p : Addr} {o : HO} (h : H p = none) : Same H (upd H p o) := fun b x e => by
  rw [upd_ne (ne_of_none e h)]
  exact e
def isLet (c : Nat) : Bool := decide (97 ≤ c ∧ c ≤ 122)
/-- what a name is, by its signs -/
def nameS (z : Str) : Bool := decide (1 ≤ z.length ∧ z.length ≤ 8) && z.cps.toList.all isLet
inductive NameOf (K : PySem.W.Frag) (H : Hp) : V → Bool → Prop
  | str (z : Str) (h : z.length ≤ 1000) (ok : ∀ c ∈ z.cps.toList, c < 0x110000) : NameOf K H (.str z) (nameS z)
  | odd {v : V} {t : String} (h : TyX K H v (.type t)) (k : kitB t "str" = some false) : NameOf K H v false
def spName (K : PySem.W.Frag) : Sp := fun vs H Q _ => ∃ (v : V) (b : Bool), vs = [v] ∧ NameOf K H v b ∧ ∀ H', Same H H' → Q (.bl b) H'
theorem lc_str {x : Str} {g : TG} {tt : TT} {te : TE} {vs : List Nat} {σ : L2.St} {H1 : Hp} {D : Addr} {Qd : Hp → Prop} (Pv : Nat → Hp → Prop) (h0 : Pv 0 (upd H1 D (.lst [])))
    (hs : ∀ i c H, x.cps.toList[i]? = some c → Pv i H → g (.str ⟨#[c]⟩) (wipe σ vs) H fun σ2 H2 => wipe σ2 vs = wipe σ vs ∧ tt σ2 H2 fun b H3 =>
      if b = true then te σ2 H3 fun y H4 => ∃ acc, H4 D = some (.lst acc) ∧ acc.length < sizeLine ∧ Pv (i + 1) (upd H4 D (.lst (acc ++ [y]))) else Pv (i + 1) H3) (hd : ∀ H, Pv x.cps.toList.length H → Qd H) :
    ∃ W : Nat → Nat → Hp → Prop, (∃ m, W 0 m (upd H1 D (.lst []))) ∧ ∀ i m H, W i m H →
      ((Its x).stop i H ∧ Qd H) ∨ ((Its x).go i H ∧ ∃ Nx : Hp → Prop, (∀ H', Nx H' → ∃ m', m' < m ∧ W (i + 1) m' H') ∧ ∀ y H', (Its x).yld i H y H' → g y (wipe σ vs) H' fun σ2 H2 => wipe σ2 vs = wipe σ vs ∧ tt σ2 H2 fun b H3 =>
        if b = true then te σ2 H3 fun y H4 => ∃ acc, H4 D = some (.lst acc) ∧ acc.length < sizeLine ∧ Nx (upd H4 D (.lst (acc ++ [y]))) else Nx H3) := by
  refine ⟨fun i m H => m = x.cps.size - i ∧ i ≤ x.cps.size ∧ Pv i H, ⟨x.cps.size, by simp, Nat.zero_le _, h0⟩, ?_⟩
  rintro i m H ⟨rfl, hi, p⟩
  by_cases hlt : i < x.cps.size
  · refine .inr ⟨hlt, Pv (i + 1), fun H' p' => ⟨x.cps.size - (i + 1), by omega, rfl, hlt, p'⟩, fun y H' hy => ?_⟩
    obtain ⟨rfl, c, hc, rfl⟩ := hy
    exact hs i c _ (by simpa using hc) p
  · have e : i = x.cps.size := by omega
    subst e
    exact .inl ⟨Nat.le_refl _, hd H (by simpa using p)⟩
theorem letter_in (c : Nat) : decide (c ∈ ("abcdefghijklmnopqrstuvwxyz" : Str).cps.toList) = isLet c := by
  have e : ("abcdefghijklmnopqrstuvwxyz" : Str).cps.toList = List.range' 97 26 := by decide +kernel
  rw [e]
  unfold isLet
  refine decide_eq_decide.mpr ?_
  rw [List.mem_range'_1]
  omega
section
variable {P : Program} {w : World} {K : PySem.W.Frag} {mg : Str → Option Value} {base : Heap}
theorem ok_isName {f : Addr} {fd : FuncData} {tl tm : Tok} (F : Fun K "is_name" "is_name" sIsName f fd) (mi : mg "isinstance" = none) (ms : mg "str" = none) (ml : mg "len" = none) (ma : mg "all" = none) (gL : mg "LETTERS" = some (.str "abcdefghijklmnopqrstuvwxyz" tl)) (gM : mg "MAX_LETTERS" = some (.int 8 tm)) :
    FnOk P w K mg base CX0 1 f fd ["value"] (spName K) := by
  refine F.ok scIsName (fun vs H Q E h => ?_) (fun cdv A outer s H vs Q E hr h => ?_)
  · obtain ⟨v, b, rfl, _⟩ := h
    rfl
  · obtain ⟨v, b, rfl, hn, q⟩ := h
    refine ⟨_, pss_cons (ps_if (PW.pt (pw_or (pt_not (pt_val (pe_callB call_isi (by rfl) mi (by decide +kernel) (pa_cons (pv 0) (pa_cons (pe_bltn (v := .ty "str") (by rfl) ms (by decide +kernel) rfl) pa_nil)))))
          (pw_or1 (pt_not (pt_chain op_le op_le pe_int (pe_callB call_len_str (by rfl) ml PySem.boot_len (pa_cons (pv 0) pa_nil)) (pe_glob (v := .int 8) (by rfl) gM ⟨_, rfl⟩))))))
        (pss_one (ps_ret pe_bl)) pss_nil)
      (pss_one (ps_ret (pe_callB (cr_all rfl) (by rfl) ma (by decide +kernel) (pa_cons
        (pe_lc (own := [("letter", 1)]) (g := gName 1) (tt := tYes) rfl scIsName.nd (pi_str (pv 0)) (blkOk_by (N := ["value", "letter"]) (sc := defScope sIsName) (by decide +kernel))
          (fun _ _ _ _ _ => pg_name (i := 1) scIsName.nd rfl (Or.inl rfl)) (fun _ _ _ _ _ => pts_nil) (fun _ _ _ _ _ => pe_cmpR op_in_sign (pv 1) (pe_glob (v := .str "abcdefghijklmnopqrstuvwxyz") (by rfl) gL ⟨_, rfl⟩) rfl)) pa_nil)))), ?_⟩
    cases hn with
    | odd hty hk =>
      exact ⟨v, rfl, v, .ty "str", _, _, false, rfl, .ty _, hty, kit_ty hk, _, rfl, q H (Same.refl H)⟩
    | str z hz hok =>
      refine ⟨_, rfl, .str z, .ty "str", .type "str", .type "str", true, rfl, .ty _, .base (.str z), kit_ty (by decide +kernel), true, rfl, ?_⟩
      refine ⟨.str z, rfl, z, rfl, Nat.le_trans hz (by decide), 1, _, rfl, rfl, _, rfl, ?_⟩
      refine ite2 (fun e1 => ?_) (fun e1 => ?_)
      · have h1 : (1 : Int) ≤ z.length := of_decide_eq_true e1
        refine ⟨_, _, rfl, rfl, _, rfl, ite2 (fun e2 => ?_) (fun e2 => ?_)⟩
        · have h2 : ¬ ((z.length : Int) ≤ 8) := fun q => by
            rw [decide_eq_true q] at e2
            cases e2
          have en : nameS z = false := by
            unfold nameS
            rw [decide_eq_false (by omega), Bool.false_and]
          rw [en] at q
          exact q H (Same.refl H)
        · have h2 : (z.length : Int) ≤ 8 := by
            have e3 : decide ((z.length : Int) ≤ 8) = true := by
              cases e4 : decide ((z.length : Int) ≤ 8) with
              | true => rfl
              | false =>
                rw [e4] at e2
                exact absurd rfl e2
            exact of_decide_eq_true e3
          refine ⟨.str z, rfl, z, rfl, fun D hD => ?_⟩
          have ltb : z.cps.toList.length ≤ 8 := by
            have : z.length = z.cps.toList.length := by simp [Str.length]
            omega
          refine lc_str (fun i H' => H' = upd H D (.lst ((z.cps.toList.take i).map fun c => V.bl (isLet c)))) rfl (fun i c H' hc hP => ?_) (fun H' hP => ?_)
          · subst hP
            refine ⟨rfl, _, rfl, c, _, rfl, rfl, _, upd_same, ?_, ?_⟩
            · rw [List.length_map, List.length_take]
              have : sizeLine = sizeLine := rfl
              rw [sizeLine_eq]
              omega
            · rw [upd_upd, List.take_add_one, hc, List.map_append, letter_in]
              rfl
          · subst hP
            refine ⟨D, z.cps.toList.map isLet, rfl, SqL.of ?_, ?_⟩
            · rw [upd_same, List.take_length, List.map_map]
              rfl
            · have en : nameS z = (z.cps.toList.map isLet).all id := by
                unfold nameS
                rw [decide_eq_true (by omega), Bool.true_and, List.all_map]
                rfl
              rw [← en]
              exact q _ (same_upd hD)
      · have h1 : ¬ (1 : Int) ≤ z.length := fun h => e1 (decide_eq_true h)
        have en : nameS z = false := by
          unfold nameS
          rw [decide_eq_false (by omega), Bool.false_and]
        rw [en] at q
        exact ⟨_, rfl, q H (Same.refl H)⟩
end
end K02

set_option maxRecDepth 100000
set_option maxHeartbeats 4000000
/-! repr of lists of what is known, an empty dict among it -/
namespace KX
open PySem PySem.Spec PyProof.Rows L2
mutual
/-- v is read as d -/
inductive Shw (H : Hp) : V → PyData → Prop
  | non : Shw H .non .none
  | bl (b : Bool) : Shw H (.bl b) (.bool b)
  | int (i : Int) : Shw H (.int i) (.int i)
  | str (x : Str) : Shw H (.str x) (.str x)
  | lst {a : Addr} {xs : List V} {ds : List PyData} : H a = some (.lst xs) → ShwAll H xs ds → Shw H (.ref a) (.list ds)
  | tup {a : Addr} {xs : List V} {ds : List PyData} : H a = some (.tup xs) → ShwAll H xs ds → Shw H (.ref a) (.tuple ds)
  | dct {a : Addr} : H a = some (.dK []) → Shw H (.ref a) (.dict [])
inductive ShwAll (H : Hp) : List V → List PyData → Prop
  | nil : ShwAll H [] []
  | cons {v : V} {vs : List V} {d : PyData} {ds : List PyData} : Shw H v d → ShwAll H vs ds → ShwAll H (v :: vs) (d :: ds)
end
section
variable {H H' : Hp}
mutual
theorem Shw.grow (g : ∀ b o, H b = some o → (∀ ps, o ≠ .tbl ps) → H' b = some o) : ∀ {v : V} {d : PyData}, Shw H v d → Shw H' v d
  | _, _, .non => .non
  | _, _, .bl b => .bl b
  | _, _, .int i => .int i
  | _, _, .str x => .str x
  | _, _, .lst h r => .lst (g _ _ h fun _ z => nomatch z) (ShwAll.grow g r)
  | _, _, .tup h r => .tup (g _ _ h fun _ z => nomatch z) (ShwAll.grow g r)
  | _, _, .dct h => .dct (g _ _ h fun _ z => nomatch z)
theorem ShwAll.grow (g : ∀ b o, H b = some o → (∀ ps, o ≠ .tbl ps) → H' b = some o) : ∀ {vs : List V} {ds : List PyData}, ShwAll H vs ds → ShwAll H' vs ds
  | _, _, .nil => .nil
  | _, _, .cons a r => .cons (Shw.grow g a) (ShwAll.grow g r)
end
theorem ShwAll.app : ∀ {xs ys : List V} {ds es : List PyData}, ShwAll H xs ds → ShwAll H ys es → ShwAll H (xs ++ ys) (ds ++ es)
  | _, _, _, _, .nil, h => h
  | _, _, _, _, .cons a r, h => .cons a (ShwAll.app r h)
theorem ShwAll.at : ∀ {xs : List V} {ds : List PyData}, xs.length = ds.length → (∀ (i : Nat) (x : V) (d : PyData), xs[i]? = some x → ds[i]? = some d → Shw H x d) → ShwAll H xs ds
  | [], [], _, _ => .nil
  | x :: xs, d :: ds, hl, h => .cons (h 0 x d rfl rfl) (ShwAll.at (by simpa using hl) fun i y e h1 h2 => h (i + 1) y e (by simpa using h1) (by simpa using h2))
  | [], _ :: _, hl, _ => by simp at hl
  | _ :: _, [], hl, _ => by simp at hl
end
section
variable {P : Program} {w : World} {H : Hp} {h : Heap}
theorem lst_get (ok : HOk P w H h) {a : Addr} {xs : List V} (e : H a = some (.lst xs)) : xs.length ≤ sizeLine ∧ ∃ (its : List Value) (n : Nat), Vals xs its ∧ h.get? a = some { cls := .type "list", data := .seq its.toArray n } := ok a _ e
theorem tup_get (ok : HOk P w H h) {a : Addr} {xs : List V} (e : H a = some (.tup xs)) : xs.length ≤ sizeLine ∧ ∃ its : List Value, Vals xs its ∧ IsTup h a its.toArray := ok a _ e
theorem dct_get (ok : HOk P w H h) {a : Addr} (e : H a = some (.dK [])) : (a == sysModules) = false ∧ ∃ (o : Obj) (n : Nat), h.get? a = some o ∧ o.cls = .type "dict" ∧ o.data = .dict #[] n := by
  obtain ⟨_, hs, vs, r, o, es, ep, h1, h2, h3, h4⟩ := (ok a _ e : ObjOk P w H h a (.dK []))
  refine ⟨hs, o, ep, h1, h2.1, ?_⟩
  cases r
  have e0 : es.toList = [] := by
    have q := h4.2.1
    generalize es.toList = l at q
    cases q
    rfl
  rw [h3, show es = #[] from Array.toList_eq_nil_iff.mp e0]
mutual
theorem shw_reads (ok : HOk P w H h) : ∀ (d : PyData) (v : V) (u : Value), Shw H v d → RelV v u → ∃ as, Reads h u d as
  | .none, _, _, x, r => by
    cases x
    cases r
    exact ⟨[], .none⟩
  | .bool b, _, _, x, r => by
    cases x
    cases r
    exact ⟨[], .bool b⟩
  | .int i, _, _, x, r => by
    cases x
    obtain ⟨t, e⟩ := r
    subst e
    exact ⟨[], .int i t⟩
  | .str y, _, _, x, r => by
    cases x
    obtain ⟨t, e⟩ := r
    subst e
    exact ⟨[], .str y t⟩
  | .list ds, _, _, x, r => by
    cases x with
    | lst e ha =>
      cases r
      obtain ⟨_, its, n, rv, g⟩ := lst_get ok e
      obtain ⟨as, q⟩ := shw_readsAll ok ds _ its ha rv
      exact ⟨_, .list g rfl rfl q⟩
  | .tuple ds, _, _, x, r => by
    cases x with
    | tup e ha =>
      cases r
      obtain ⟨_, its, rv, ⟨o, g, gc, n, gd⟩⟩ := tup_get ok e
      obtain ⟨as, q⟩ := shw_readsAll ok ds _ its ha rv
      exact ⟨_, .tuple g gc gd q⟩
  | .dict kvs, _, _, x, r => by
    cases x with
    | dct e =>
      cases r
      obtain ⟨_, o, n, g, gc, gd⟩ := dct_get ok e
      exact ⟨_, .dict g gc gd (kvs := []) .nil .nil⟩
theorem shw_readsAll (ok : HOk P w H h) : ∀ (ds : List PyData) (vs : List V) (us : List Value), ShwAll H vs ds → Vals vs us → ∃ as, ReadsAll h us ds as
  | [], _, _, x, r => by
    cases x
    cases r
    exact ⟨[], .nil⟩
  | d :: ds, _, _, x, r => by
    cases x with
    | cons x1 x2 =>
      cases r with
      | cons r1 r2 =>
        obtain ⟨as, q1⟩ := shw_reads ok d _ _ x1 r1
        obtain ⟨bs, q2⟩ := shw_readsAll ok ds _ _ x2 r2
        exact ⟨_, .cons q1 q2⟩
end
theorem none_mem {n : Nat} : ReadAtMost h n [] := fun _ z => nomatch z
mutual
theorem shw_repr (ok : HOk P w H h) : ∀ (d : PyData) (v : V) (u : Value), Shw H v d → RelV v u → d.showable = true → d.shown.length ≤ sizeLine → ∃ bs, ReadAtMost h d.depth bs ∧ ReprK P w bs h d.depth u d.shown
  | .none, _, _, x, r, hs, hz => by
    cases x
    cases r
    refine ⟨[], none_mem, ?_⟩
    simp only [PyData.shown]
    exact .of_is ReprIs.none _ _ _
  | .bool b, _, _, x, r, hs, hz => by
    cases x
    cases r
    refine ⟨[], none_mem, ?_⟩
    simp only [PyData.shown]
    exact .of_is (ReprIs.bool b) _ _ _
  | .int i, _, _, x, r, hs, hz => by
    cases x
    obtain ⟨t, e⟩ := r
    subst e
    refine ⟨[], none_mem, ?_⟩
    simp only [PyData.shown]
    exact .of_is (ReprIs.int t (by simpa [PyData.showable] using hs)) _ _ _
  | .str y, _, _, x, r, hs, hz => by
    cases x
    obtain ⟨t, e⟩ := r
    subst e
    refine ⟨[], none_mem, ?_⟩
    simp only [PyData.shown] at hz ⊢
    exact .of_is (ReprIs.str y t hz) _ _ _
  | .list ds, v, u, x, r, hs, hz => by
    obtain ⟨as0, rd⟩ := shw_reads ok _ v u x r
    cases x with
    | lst e ha =>
      cases r
      obtain ⟨_, its, n, rv, g⟩ := lst_get ok e
      have hz1 : (listText (PyData.shownAll ds)).length ≤ sizeLine := by simpa only [PyData.shown] using hz
      obtain ⟨bs, hb, hk⟩ := shw_reprAll ok ds _ its ha rv (by simpa only [PyData.showable] using hs) fun t ht => Nat.le_trans (listText_mem_le ht) hz1
      have hna := not_mem_of_deeper rd (by simp only [PyData.depth]; omega) hb
      refine ⟨_, ReadAtMost.cons rd (by simp only [PyData.depth]; omega) hb, ?_⟩
      simp only [PyData.depth, PyData.shown]
      cases its with
      | nil =>
        cases rv
        cases ha
        simp only [PyData.shownAll, listText_nil]
        exact ReprK.listEmpty g rfl rfl
      | cons y l => exact ReprK.list g rfl rfl hna (by simpa using hk.length_eq) fun i z q => hk.item i z (by simpa using q)
  | .tuple ds, v, u, x, r, hs, hz => by
    obtain ⟨as0, rd⟩ := shw_reads ok _ v u x r
    cases x with
    | tup e ha =>
      cases r
      obtain ⟨_, its, rv, ⟨o, g, gc, n, gd⟩⟩ := tup_get ok e
      have hz1 : (tupleText (PyData.shownAll ds)).length ≤ sizeLine := by simpa only [PyData.shown] using hz
      obtain ⟨bs, hb, hk⟩ := shw_reprAll ok ds _ its ha rv (by simpa only [PyData.showable] using hs) fun t ht => Nat.le_trans (tupleText_mem_le ht) hz1
      have hna := not_mem_of_deeper rd (by simp only [PyData.depth]; omega) hb
      refine ⟨_, ReadAtMost.cons rd (by simp only [PyData.depth]; omega) hb, ?_⟩
      simp only [PyData.depth, PyData.shown]
      exact ReprK.tuple g gc gd hna hk
  | .dict kvs, v, u, x, r, hs, hz => by
    obtain ⟨as0, rd⟩ := shw_reads ok _ v u x r
    cases x with
    | dct e =>
      cases r
      obtain ⟨sy, o, n, g, gc, gd⟩ := dct_get ok e
      refine ⟨_, ReadAtMost.cons rd (n := 0) (Nat.zero_le _) none_mem, ?_⟩
      simp only [PyData.depth, PyData.shown]
      exact ReprK.dict g gc gd sy (fun z => nomatch z) .nil
theorem shw_reprAll (ok : HOk P w H h) : ∀ (ds : List PyData) (vs : List V) (us : List Value), ShwAll H vs ds → Vals vs us → PyData.showableAll ds = true → (∀ t ∈ PyData.shownAll ds, t.length ≤ sizeLine) → ∃ bs, ReadAtMost h (PyData.depthAll ds) bs ∧ ReprAllK P w bs h (PyData.depthAll ds) us (PyData.shownAll ds)
  | [], _, _, x, r, hs, hz => by
    cases x
    cases r
    refine ⟨[], none_mem, ?_⟩
    simp only [PyData.shownAll]
    exact .nil
  | d :: ds, _, _, x, r, hs, hz => by
    cases x with
    | cons x1 x2 =>
      cases r with
      | cons r1 r2 =>
        simp only [PyData.showableAll, Bool.and_eq_true] at hs
        simp only [PyData.shownAll, List.mem_cons, forall_eq_or_imp] at hz
        obtain ⟨b1, h1, k1⟩ := shw_repr ok d _ _ x1 r1 hs.1 hz.1
        obtain ⟨b2, h2, k2⟩ := shw_reprAll ok ds _ _ x2 r2 hs.2 hz.2
        simp only [PyData.depthAll, PyData.shownAll]
        refine ⟨b1 ++ b2, (h1.mono (Nat.le_max_left _ _)).append (h2.mono (Nat.le_max_right _ _)), .cons ((k1.more fun b q => List.mem_append_left _ q).level_le (Nat.le_max_left _ _)) (k2.more_le (fun b q => List.mem_append_right _ q) (Nat.le_max_right _ _))⟩
end
end
/-- repr(xs), xs a list that is not empty -/
def rReprL : List V → Hp → VK → Prop := fun vs H Q => ∃ (a : Addr) (x : V) (xs : List V) (ds : List PyData), vs = [.ref a] ∧ H a = some (.lst (x :: xs)) ∧ ShwAll H (x :: xs) ds ∧ (PyData.list ds).showable = true ∧ (PyData.list ds).depth ≤ 60 ∧ (PyData.list ds).shown.length ≤ 1000000 ∧ Q (.str (PyData.list ds).shown) H
theorem call_reprL {X : Cx} (hg : X.A.guards = some []) (hu : X.A.units + 64 < cLine) : CallR X (.builtin "repr") rReprL := by
  intro pins s σ H vs us Q I r h
  obtain ⟨a, x, xs, ds, rfl, e, ha, hs, hd, hz, q⟩ := h
  obtain ⟨u, rfl, rr⟩ := vals1 r
  obtain rfl : u = Value.ref a := rr
  have hz1 : (listText (PyData.shownAll ds)).length ≤ sizeLine := by
    simp only [PyData.shown] at hz
    rw [sizeLine_eq]
    omega
  obtain ⟨as0, rd⟩ := shw_reads I.hok (.list ds) (.ref a) (.ref a) (.lst e ha) rfl
  obtain ⟨_, its, n, rv, g⟩ := lst_get I.hok e
  obtain ⟨bs, hb, hk⟩ := shw_reprAll I.hok ds _ its ha rv (by simpa only [PyData.showable] using hs) fun t ht => Nat.le_trans (listText_mem_le ht) hz1
  have hna := not_mem_of_deeper rd (by simp only [PyData.depth]; omega) hb
  simp only [PyData.depth] at hd
  simp only [PyData.shown] at q
  cases its with
  | nil => cases rv
  | cons y l =>
    refine call_repr_slot (by omega) ⟨_, g, rfl⟩ F.slot_list_repr.toG ?_
    refine call_list_reprK g rfl rfl hna (by simpa using hk.length_eq) (fun i z w' => hk.item i z (by simpa using w')) hg (fun b _ => Clear.nil b) (by show X.A.units + 1 + _ < _; omega) (fun _ _ z => z) (fun h' t tk kp => ?_) hz1
    exact ⟨_, _, rfl, .str _, H, I.kept kp, ⟨t, rfl⟩, q⟩
end KX

set_option autoImplicit false
set_option maxRecDepth 100000
set_option maxHeartbeats 4000000
namespace K02
open PySem PySem.Spec PyProof.Rows L2 KX
/-! data: which is a name, names, arrays -/
def isNm : PyData → Bool
  | .str z => nameS z
  | _ => false
def areNm (n : Nat) : PyData → Bool
  | .tuple ds => decide (ds.length ≤ n) && ds.all isNm
  | _ => false
def lenD : PyData → Nat
  | .tuple ds => ds.length
  | _ => 0
def isPr (d : PyData) : Bool := areNm 2 d && decide (lenD d = 2)
def areArr : PyData → Bool
  | .tuple ds => decide (ds.length ≤ 12) && ds.all isPr
  | _ => false
mutual
/-- every text is short and of signs that there are; lists and tuples are short -/
def gd : PyData → Bool
  | .str z => decide (z.length ≤ 1000) && z.cps.toList.all fun c => decide (c < 0x110000)
  | .list xs | .tuple xs => decide (xs.length ≤ 1000) && gdAll xs
  | .none | .bool _ | .int _ | .dict _ => true
def gdAll : List PyData → Bool
  | [] => true
  | x :: xs => gd x && gdAll xs
end
theorem gdAll_mem : ∀ {xs : List PyData} {x : PyData}, gdAll xs = true → x ∈ xs → gd x = true
  | [], _, _, h => nomatch h
  | y :: ys, x, h, m => by
    simp only [gdAll, Bool.and_eq_true] at h
    rcases List.mem_cons.mp m with rfl | m
    · exact h.1
    · exact gdAll_mem h.2 m
def tyD : PyData → String
  | .none => "NoneType"
  | .bool _ => "bool"
  | .int _ => "int"
  | .str _ => "str"
  | .list _ => "list"
  | .tuple _ => "tuple"
  | .dict _ => "dict"
section
variable {K : PySem.W.Frag} {H H' : Hp} {v : V} {d : PyData}
theorem shw_ty (s : Shw H v d) : TyX K H v (.type (tyD d)) := by
  cases s with
  | non => exact .base .non
  | bl b => exact .base (.bl b)
  | int i => exact .base (.int i)
  | str x => exact .base (.str x)
  | lst e _ => exact .base (.lst e)
  | tup e _ => exact .base (.tup e)
  | dct e => exact .base (.dK e)
theorem shw_name (s : Shw H v d) (g : gd d = true) : NameOf K H v (isNm d) := by
  have t := shw_ty (K := K) s
  cases s with
  | str x =>
    simp only [gd, Bool.and_eq_true, decide_eq_true_eq] at g
    exact .str x g.1 fun c hc => of_decide_eq_true (List.all_eq_true.mp g.2 c hc)
  | non => exact .odd t (by show kitB "NoneType" "str" = some false; decide +kernel)
  | bl b => exact .odd t (by show kitB "bool" "str" = some false; decide +kernel)
  | int i => exact .odd t (by show kitB "int" "str" = some false; decide +kernel)
  | lst e _ => exact .odd t (by show kitB "list" "str" = some false; decide +kernel)
  | tup e _ => exact .odd t (by show kitB "tuple" "str" = some false; decide +kernel)
  | dct e => exact .odd t (by show kitB "dict" "str" = some false; decide +kernel)
theorem Shw.same (s : Shw H v d) (g : Same H H') : Shw H' v d := s.grow fun b o e _ => g b o e
theorem ShwAll.same {vs : List V} {ds : List PyData} (s : ShwAll H vs ds) (g : Same H H') : ShwAll H' vs ds := s.grow fun b o e _ => g b o e
theorem ShwAll.len : ∀ {vs : List V} {ds : List PyData}, ShwAll H vs ds → vs.length = ds.length
  | _, _, .nil => rfl
  | _, _, .cons _ r => by rw [List.length_cons, List.length_cons, ShwAll.len r]
theorem ShwAll.get : ∀ {vs : List V} {ds : List PyData} {i : Nat} {x : V}, ShwAll H vs ds → vs[i]? = some x → ∃ d, ds[i]? = some d ∧ Shw H x d
  | _, _, i, x, .nil, h => by simp at h
  | _, _, 0, x, .cons a r, h => by
    rw [List.getElem?_cons_zero] at h
    cases h
    exact ⟨_, rfl, a⟩
  | _, _, i + 1, x, .cons a r, h => by
    rw [List.getElem?_cons_succ] at h
    obtain ⟨d, h1, h2⟩ := ShwAll.get r h
    exact ⟨d, by rw [List.getElem?_cons_succ]; exact h1, h2⟩
end
/-- a comprehension over a tuple of data, each element told by its datum -/
theorem lc_tupD {K : PySem.W.Frag} {a : Addr} {xs : List V} {ds : List PyData} {g : TG} {te : TE} {vs : List Nat} {σ : L2.St} {H1 : Hp} {D : Addr} {Qd : Hp → Prop} (G : PyData → V) (hx : H1 a = some (.tup xs)) (n : H1 D = none) (few : xs.length ≤ 100000) (sh : ShwAll H1 xs ds)
    (step : ∀ (x : V) (d : PyData) (H' : Hp) (Q' : VK), x ∈ xs → d ∈ ds → Shw H' x d → Same H1 H' → (∀ H4, Same H' H4 → Q' (G d) H4) → g x (wipe σ vs) H' fun σ2 H2 => wipe σ2 vs = wipe σ vs ∧ te σ2 H2 Q')
    (fin : ∀ H', Same H1 H' → H' D = some (.lst (ds.map G)) → Qd H') :
    ∃ W : Nat → Nat → Hp → Prop, (∃ m, W 0 m (upd H1 D (.lst []))) ∧ ∀ i m H, W i m H →
      ((Itt K a).stop i H ∧ Qd H) ∨ ((Itt K a).go i H ∧ ∃ Nx : Hp → Prop, (∀ H', Nx H' → ∃ m', m' < m ∧ W (i + 1) m' H') ∧ ∀ x H', (Itt K a).yld i H x H' → g x (wipe σ vs) H' fun σ2 H2 => wipe σ2 vs = wipe σ vs ∧ tYes σ2 H2 fun b H3 =>
        if b = true then te σ2 H3 fun y H4 => ∃ acc, H4 D = some (.lst acc) ∧ acc.length < sizeLine ∧ Nx (upd H4 D (.lst (acc ++ [y]))) else Nx H3) := by
  have ln := ShwAll.len sh
  refine lc_tup (K := K) (a := a) (xs := xs) (fun m H' => Same H1 H' ∧ H' D = some (.lst ((ds.take m).map G))) ⟨same_upd n, by rw [List.take_zero]; exact upd_same⟩ (fun m H' _ hP => SqT.of (hP.1 _ _ hx)) (fun m x H' hm hP => ?_) (fun H' hP => ?_)
  · obtain ⟨s1, d1⟩ := hP
    obtain ⟨d, hd, sd⟩ := ShwAll.get sh hm
    refine step x d H' _ (List.mem_of_getElem? hm) (List.mem_of_getElem? hd) (Shw.same sd s1) s1 fun H4 s4 => ⟨_, s4 _ _ d1, ?_, fun b o e => ?_, ?_⟩
    · have := (List.getElem?_eq_some_iff.mp hm).1
      rw [List.length_map, List.length_take, sizeLine_eq]
      omega
    · rw [upd_ne (ne_of_none e n)]
      exact s4 _ _ (s1 _ _ e)
    · rw [upd_same, List.take_add_one, hd, List.map_append]
      rfl
  · obtain ⟨s1, d1⟩ := hP
    rw [ln, List.take_length] at d1
    exact fin H' s1 d1
end K02

set_option autoImplicit false
set_option maxRecDepth 100000
set_option maxHeartbeats 4000000
namespace K02
open PySem PySem.Spec PyProof.Rows L2 KX
/-- a def of the module, with its promise -/
structure Fnc (P : Program) (w : World) (K : PySem.W.Frag) (mg : Str → Option Value) (base : Heap) (CX : CXT) (k : Nat) (x : Str) (ps : List Str) (sp : Sp) : Prop where
  ex : ∃ (f : Addr) (fd : FuncData), FnOk P w K mg base CX k f fd ps sp ∧ Binds K fd ps [] ∧ mg x = some (.ref f) ∧ PySem.W.keepIn K (.ref f) = true
section
variable {X : Cx} {CX : CXT} {k j : Nat} {x : Str} {ps : List Str} {sp : Sp} {E : XK} {p pos : Pos} {e : Expr} {es : List Expr} {t : TA}
theorem pe_fnc (F : Fnc X.prog X.w X.K X.mg X.base CX k x ps sp) (hr : Room j X.A) (hk : k ≤ j) (hg : Gl X x) (hx : Passes CX X E) (ha : PA X (e :: es) t) (hdb : (x == ("__debug__" : Str)) = false := by decide)
    (he : starEach (e :: es) X.env = (false, eval e X.env) :: starEach es X.env := by rfl) (hpl : (backTo pos (starEach es X.env)).any (·.1) = false := by rfl) : PE X (.Call (.Name x p) (e :: es) [] pos) (tCall sp [] E t) := by
  obtain ⟨f, fd, G, hb, hm, hkp⟩ := F.ex
  exact pe_call G (hr.mono hk) hg hm hkp hb .nil hx ha hdb he hpl
end
/-- built-in names that are left alone -/
structure Free (mg : Str → Option Value) : Prop where
  isinstance : mg "isinstance" = none
  str : mg "str" = none
  tuple : mg "tuple" = none
  len : mg "len" = none
  all : mg "all" = none
  set : mg "set" = none
  int : mg "int" = none
  list : mg "list" = none
  range : mg "range" = none
def rLen (K : PySem.W.Frag) : List V → Hp → VK → Prop := fun xs H Q => ∃ p ys, xs = [V.ref p] ∧ (SqL K H p ys ∨ SqT K H p ys) ∧ Q (V.int ↑ys.length) H
abbrev sAreNames : Stmt := topS 19
abbrev sAreArrays : Stmt := topS 20
theorem scAreNames : FnScope ["value", "most", "word"] ["value", "most"] (defScope sAreNames) :=
  ⟨rfl, rfl, rfl, by decide +kernel, rfl, by decide +kernel, by decide +kernel⟩
theorem scAreArrays : FnScope ["value", "pair"] ["value"] (defScope sAreArrays) :=
  ⟨rfl, rfl, rfl, by decide +kernel, rfl, by decide +kernel, by decide +kernel⟩
def spNames : Sp := fun vs H Q _ => ∃ (v : V) (d : PyData) (n : Nat), vs = [v, .int n] ∧ Shw H v d ∧ gd d = true ∧ ∀ H', Same H H' → Q (.bl (areNm n d)) H'
def spArrays : Sp := fun vs H Q _ => ∃ (v : V) (d : PyData), vs = [v] ∧ Shw H v d ∧ gd d = true ∧ ∀ H', Same H H' → Q (.bl (areArr d)) H'
section
variable {P : Program} {w : World} {K : PySem.W.Frag} {mg : Str → Option Value} {base : Heap}
def isTup : PyData → Bool
  | .tuple _ => true
  | _ => false
theorem kit_tup (d : PyData) : kitB (tyD d) "tuple" = some (isTup d) := by
  have a : (["NoneType", "bool", "int", "str", "list", "dict"].all fun t => kitB t "tuple" == some false) = true := by decide +kernel
  have b := fun t h => beq_iff_eq.mp (List.all_eq_true.mp a t h)
  cases d with
  | tuple ds => show kitB "tuple" "tuple" = some true; decide +kernel
  | none => exact b "NoneType" (by simp)
  | bool _ => exact b "bool" (by simp)
  | int _ => exact b "int" (by simp)
  | str _ => exact b "str" (by simp)
  | list _ => exact b "list" (by simp)
  | dict _ => exact b "dict" (by simp)
theorem not_tup {t : String} (h : t ∈ ["NoneType", "bool", "int", "str", "list", "dict"]) : kitB t "tuple" = some false := by
  have a : (["NoneType", "bool", "int", "str", "list", "dict"].all fun t => kitB t "tuple" == some false) = true := by decide +kernel
  exact beq_iff_eq.mp (List.all_eq_true.mp a t h)
theorem ok_names {f : Addr} {fd : FuncData} (F : Fun K "are_names" "are_names" sAreNames f fd) (N : Fnc P w K mg base CX0 1 "is_name" ["value"] (spName K)) (B : Free mg) :
    FnOk P w K mg base CX0 2 f fd ["value", "most"] spNames := by
  refine F.ok scAreNames (fun vs H Q E h => ?_) (fun cdv A outer s H vs Q E hr h => ?_)
  · obtain ⟨v, d, n, rfl, _⟩ := h
    rfl
  · obtain ⟨v, d, n, rfl, sh, g, q⟩ := h
    refine ⟨_, pss_one (ps_ret (pe_and (pe_callB call_isi (by rfl) B.isinstance (by decide +kernel) (pa_cons (pv 0) (pa_cons (pe_bltn (v := .ty "tuple") (by rfl) B.tuple (by decide +kernel) rfl) pa_nil)))
      (pe_and (pe_cmpR op_le (pe_callB call_len_seq (by rfl) B.len PySem.boot_len (pa_cons (pv 0) pa_nil)) (pv 1) (nomark _))
      (pe_one (pe_callB (cr_all rfl) (by rfl) B.all (by decide +kernel) (pa_cons (pe_lc (own := [("word", 2)]) (g := gName 2) (tt := tYes) rfl scAreNames.nd (pi_tup (pv 0)) (blkOk_by (N := ["value", "most", "word"]) (sc := defScope sAreNames) (by decide +kernel))
          (fun _ _ _ _ _ => pg_name (i := 2) scAreNames.nd rfl (Or.inl rfl)) (fun _ _ _ _ _ => pts_nil) (fun _ _ _ _ _ => pe_fnc N hr (by omega) (by rfl) pass0 (pa_cons (pv 2) pa_nil))) pa_nil)))))), ?_⟩
    refine ⟨v, rfl, v, .ty "tuple", _, _, isTup d, rfl, .ty _, shw_ty sh, kit_ty (kit_tup d), isTup d, rfl, ?_⟩
    cases sh with
    | non => exact q H (Same.refl H)
    | bl b => exact q H (Same.refl H)
    | int i => exact q H (Same.refl H)
    | str x => exact q H (Same.refl H)
    | lst e _ => exact q H (Same.refl H)
    | dct e => exact q H (Same.refl H)
    | @tup a xs ds e ha =>
      have ln := ShwAll.len ha
      simp only [gd, Bool.and_eq_true, decide_eq_true_eq] at g
      refine ⟨.ref a, rfl, a, xs, rfl, .inr (SqT.of e), .int n, rfl, _, _, rfl, rfl, _, rfl, ite2 (fun e1 => ?_) (fun e1 => ?_)⟩
      · have h1 : xs.length ≤ n := by
          have := of_decide_eq_true e1
          omega
        refine ⟨.ref a, rfl, a, rfl, ⟨_, SqT.of e⟩, fun D nD => ?_⟩
        refine lc_tupD (K := K) (fun d => .bl (isNm d)) e nD (by omega) ha (fun x d H' Q' hx hd shx s1 k => ⟨rfl, x, rfl, x, isNm d, rfl, shw_name shx (gdAll_mem g.2 hd), fun H4 s4 => k H4 s4⟩) (fun H' s1 d1 => ?_)
        refine ⟨D, ds.map isNm, rfl, SqL.of (by rw [d1, List.map_map]; rfl), ?_⟩
        have en : areNm n (.tuple ds) = (ds.map isNm).all id := by
          show (decide (ds.length ≤ n) && ds.all isNm) = _
          rw [decide_eq_true (by omega), Bool.true_and, List.all_map]
          rfl
        have z := q H' s1
        rw [en] at z
        exact z
      · have h1 : ¬ xs.length ≤ n := fun z => e1 (decide_eq_true (by omega))
        have en : areNm n (.tuple ds) = false := by
          show (decide (ds.length ≤ n) && ds.all isNm) = _
          rw [decide_eq_false (by omega), Bool.false_and]
        have z := q H (Same.refl H)
        rw [en] at z
        exact z
theorem ok_arrays {f : Addr} {fd : FuncData} {tk : Tok} (F : Fun K "are_arrays" "are_arrays" sAreArrays f fd) (N : Fnc P w K mg base CX0 2 "are_names" ["value", "most"] spNames) (B : Free mg) (gA : mg "MAX_ARRAYS" = some (.int 12 tk)) :
    FnOk P w K mg base CX0 3 f fd ["value"] spArrays := by
  refine F.ok scAreArrays (fun vs H Q E h => ?_) (fun cdv A outer s H vs Q E hr h => ?_)
  · obtain ⟨v, d, rfl, _⟩ := h
    rfl
  · obtain ⟨v, d, rfl, sh, g, q⟩ := h
    refine ⟨_, pss_cons (ps_if (PW.pt (pw_or (pt_not (pt_val (pe_callB call_isi (by rfl) B.isinstance (by decide +kernel) (pa_cons (pv 0) (pa_cons (pe_bltn (v := .ty "tuple") (by rfl) B.tuple (by decide +kernel) rfl) pa_nil)))))
          (pw_or1 (pt_cmpR op_gt (pe_callB call_len_seq (by rfl) B.len PySem.boot_len (pa_cons (pv 0) pa_nil)) (pe_glob (v := .int 12) (by rfl) gA ⟨_, rfl⟩) (nomark _)))))
        (pss_one (ps_ret pe_bl)) pss_nil)
      (pss_one (ps_ret (pe_callB (cr_all rfl) (by rfl) B.all (by decide +kernel) (pa_cons (pe_lc (own := [("pair", 1)]) (g := gName 1) (tt := tYes) rfl scAreArrays.nd (pi_tup (pv 0)) (blkOk_by (N := ["value", "pair"]) (sc := defScope sAreArrays) (by decide +kernel))
          (fun _ _ _ _ _ => pg_name (i := 1) scAreArrays.nd rfl (Or.inl rfl)) (fun _ _ _ _ _ => pts_nil)
          (fun _ _ _ _ _ => pe_and (pe_fnc N hr (by omega) (by rfl) pass0 (pa_cons (pv 1) (pa_cons pe_int pa_nil))) (pe_one (pe_cmpR op_eq (pe_callB (r := rLen K) call_len_seq (by rfl) B.len PySem.boot_len (pa_cons (pv 1) pa_nil)) pe_int (nomark _))))) pa_nil)))), ?_⟩
    refine ⟨v, rfl, v, .ty "tuple", _, _, isTup d, rfl, .ty _, shw_ty sh, kit_ty (kit_tup d), isTup d, rfl, ?_⟩
    cases sh with
    | non => exact q H (Same.refl H)
    | bl b => exact q H (Same.refl H)
    | int i => exact q H (Same.refl H)
    | str x => exact q H (Same.refl H)
    | lst e _ => exact q H (Same.refl H)
    | dct e => exact q H (Same.refl H)
    | @tup a xs ds e ha =>
      have ln := ShwAll.len ha
      simp only [gd, Bool.and_eq_true, decide_eq_true_eq] at g
      refine ⟨.ref a, rfl, a, xs, rfl, .inr (SqT.of e), _, _, rfl, rfl, _, rfl, ite2 (fun e1 => ?_) (fun e1 => ?_)⟩
      · have h1 : 12 < xs.length := by
          have := of_decide_eq_true e1
          omega
        have en : areArr (.tuple ds) = false := by
          show (decide (ds.length ≤ 12) && ds.all isPr) = _
          rw [decide_eq_false (by omega), Bool.false_and]
        have z := q H (Same.refl H)
        rw [en] at z
        exact z
      · have h1 : xs.length ≤ 12 := by
          have : ¬ ((xs.length : Int) > 12) := fun z => e1 (decide_eq_true z)
          omega
        refine ⟨.ref a, rfl, a, rfl, ⟨_, SqT.of e⟩, fun D nD => ?_⟩
        refine lc_tupD (K := K) (fun d => .bl (isPr d)) e nD (by omega) ha (fun x d H' Q' hx hd shx s1 k => ⟨rfl, x, rfl, x, d, 2, rfl, shx, gdAll_mem g.2 hd, fun H4 s4 => ⟨_, rfl, ?_⟩⟩) (fun H' s1 d1 => ?_)
        · refine ite2 (fun e2 => ?_) (fun e2 => ?_)
          · cases Shw.same shx s4 with
            | @tup a2 ys es e3 ha2 =>
              have l2 := ShwAll.len ha2
              refine ⟨_, rfl, a2, ys, rfl, .inr (SqT.of e3), rfl, ?_⟩
              have en : isPr (.tuple es) = decide (V.int (ys.length : Int) = V.int 2) := by
                show (areNm 2 (.tuple es) && decide (es.length = 2)) = _
                rw [e2, Bool.true_and, ← l2]
                refine decide_eq_decide.mpr ⟨fun z => by rw [z]; rfl, fun z => ?_⟩
                have := V.int.inj z
                omega
              have z := k H4 s4
              simp only [en] at z
              exact z
            | non => cases e2
            | bl b => cases e2
            | int i => cases e2
            | str x => cases e2
            | lst e _ => cases e2
            | dct e => cases e2
          · have en : isPr d = false := by
              unfold isPr
              rw [Bool.eq_false_iff.mpr e2, Bool.false_and]
            have z := k H4 s4
            simp only [en] at z
            exact z
        · refine ⟨D, ds.map isPr, rfl, SqL.of (by rw [d1, List.map_map]; rfl), ?_⟩
          have en : areArr (.tuple ds) = (ds.map isPr).all id := by
            show (decide (ds.length ≤ 12) && ds.all isPr) = _
            rw [decide_eq_true (by omega), Bool.true_and, List.all_map]
            rfl
          have z := q H' s1
          rw [en] at z
          exact z
end
end K02

set_option autoImplicit false
set_option maxRecDepth 100000
set_option maxHeartbeats 4000000
namespace K02
open PySem PySem.Spec PyProof.Rows L2 KX
/-- a pair of texts -/
def prD (p : Str × Str) : PyData := .tuple [.str p.1, .str p.2]
/-- texts, each once -/
def onceS (zs : List Str) : List Str := zs.foldl (fun acc z => if z ∈ acc then acc else acc ++ [z]) []
theorem onceS_snoc (zs : List Str) (z : Str) : onceS (zs ++ [z]) = if z ∈ onceS zs then onceS zs else onceS zs ++ [z] := by
  unfold onceS
  rw [List.foldl_append]
  rfl
theorem onceS_le (zs : List Str) : (onceS zs).length ≤ zs.length := by
  have go : ∀ (l acc : List Str), (l.foldl (fun acc k => if k ∈ acc then acc else acc ++ [k]) acc).length ≤ acc.length + l.length := fun l => by
    induction l with
    | nil => exact fun acc => Nat.le_refl _
    | cons k l ih =>
      intro acc
      have y := ih (if k ∈ acc then acc else acc ++ [k])
      rw [List.foldl_cons, List.length_cons]
      by_cases m : k ∈ acc
      · rw [if_pos m] at y ⊢
        omega
      · rw [if_neg m] at y ⊢
        rw [List.length_append, List.length_singleton] at y
        omega
  have y := go zs []
  rw [List.length_nil, Nat.zero_add] at y
  exact y
/-- the dict of these keys, all with one value -/
def keysK (v : V) (zs : List Str) : List (Key × V) := zs.map fun z => ((.inr z : Key), v)
theorem put_keysK (v : V) (zs : List Str) (z : Str) : putK (keysK v zs) (.inr z) v = keysK v (if z ∈ zs then zs else zs ++ [z]) := by
  unfold putK keysK
  by_cases m : z ∈ zs
  · have a : ((zs.map fun z => ((.inr z : Key), v)).any fun kv => decide (kv.1 = .inr z)) = true := List.any_eq_true.mpr ⟨_, List.mem_map.mpr ⟨z, m, rfl⟩, by simp⟩
    rw [if_pos a, if_pos m, List.map_map]
    refine List.map_congr_left fun y _ => ?_
    show (if (.inr y : Key) = .inr z then ((.inr y : Key), v) else ((.inr y : Key), v)) = _
    split <;> rfl
  · have a : ¬ ((zs.map fun z => ((.inr z : Key), v)).any fun kv => decide (kv.1 = .inr z)) = true := fun h => by
      obtain ⟨kv, h1, h2⟩ := List.any_eq_true.mp h
      obtain ⟨y, hy, rfl⟩ := List.mem_map.mp h1
      have e : (.inr y : Key) = .inr z := of_decide_eq_true h2
      exact m (Sum.inr.inj e ▸ hy)
    rw [if_neg a, if_neg m, List.map_append]
    rfl
abbrev sLengthsIn : Stmt := topS 21
theorem scLengthsIn : FnScope ["arrays", "array", "length"] ["arrays"] (defScope sLengthsIn) :=
  ⟨rfl, rfl, rfl, by decide +kernel, rfl, by decide +kernel, by decide +kernel⟩
/-- arrays: pairs of texts -/
def Arr (H : Hp) (v : V) (ps : List (Str × Str)) : Prop := Shw H v (.tuple (ps.map prD))
def lensOf (ps : List (Str × Str)) : List Str := onceS (ps.map (·.2))
def spLens : Sp := fun vs H Q _ => ∃ (v : V) (ps : List (Str × Str)), vs = [v] ∧ Arr H v ps ∧ ps.length ≤ 1000 ∧ ∀ (t : Addr) (H' : Hp), Same H H' → H' t = some (.tup ((lensOf ps).map V.str)) → Q (.ref t) H'
theorem pair_get {H : Hp} {x : V} {p : Str × Str} (s : Shw H x (prD p)) : ∃ b : Addr, x = .ref b ∧ H b = some (.tup [.str p.1, .str p.2]) := by
  cases s with
  | @tup b xs _ e ha =>
    cases ha with
    | cons h1 h2 =>
      cases h1
      cases h2 with
      | cons h3 h4 =>
        cases h3
        cases h4
        exact ⟨b, rfl, e⟩
theorem arr_get {H : Hp} {v : V} {ps : List (Str × Str)} (s : Arr H v ps) : ∃ (a : Addr) (xs : List V), v = .ref a ∧ H a = some (.tup xs) ∧ xs.length = ps.length ∧ ∀ (i : Nat) (x : V), xs[i]? = some x → ∃ (p : Str × Str) (b : Addr), ps[i]? = some p ∧ x = .ref b ∧ H b = some (.tup [.str p.1, .str p.2]) := by
  cases s with
  | @tup a xs _ e ha =>
    refine ⟨a, xs, rfl, e, by have := ShwAll.len ha; rw [List.length_map] at this; exact this, fun i x hx => ?_⟩
    obtain ⟨d, h1, h2⟩ := ShwAll.get ha hx
    rw [List.getElem?_map] at h1
    obtain ⟨p, h3, rfl⟩ := Option.map_eq_some_iff.mp h1
    obtain ⟨b, e1, e2⟩ := pair_get h2
    exact ⟨p, b, h3, e1, e2⟩
section
variable {P : Program} {w : World} {K : PySem.W.Frag} {mg : Str → Option Value} {base : Heap}
theorem ok_lens {f : Addr} {fd : FuncData} (F : Fun K "lengths_in" "lengths_in" sLengthsIn f fd) (B : Free mg) : FnOk P w K mg base CX0 1 f fd ["arrays"] spLens := by
  refine F.ok scLengthsIn (fun vs H Q E h => ?_) (fun cdv A outer s H vs Q E hr h => ?_)
  · obtain ⟨v, ps, rfl, _⟩ := h
    rfl
  · obtain ⟨v, ps, rfl, sh, few, q⟩ := h
    refine ⟨_, pss_one (ps_ret (pe_callTy (call_tuple_dK rfl) (by rfl) B.tuple (by decide +kernel) (pa_cons (pe_dc (own := [("array", 1), ("length", 2)]) (g := gTup K 2 (gCons (gName 1) (gCons (gName 2) gNil))) (tt := tYes) rfl scLengthsIn.nd (pi_tup (pv 0)) (blkOk_by (N := ["arrays", "array", "length"]) (sc := defScope sLengthsIn) (by decide +kernel))
        (fun _ _ _ _ _ => pg_tup rfl (pgs_cons (pg_name (i := 1) scLengthsIn.nd rfl (Or.inl rfl) (Or.inr rfl)) (pgs_cons (pg_name (i := 2) scLengthsIn.nd rfl (Or.inl rfl) (Or.inr rfl)) pgs_nil))) (fun _ _ _ _ _ => pts_nil)
        (fun _ _ _ _ _ => pv 2) (fun _ _ _ _ _ => pe_bl)) pa_nil))), ?_⟩
    obtain ⟨a, xs, rfl, e, ln, at_⟩ := arr_get sh
    refine ⟨.ref a, rfl, a, rfl, ⟨_, SqT.of e⟩, fun D nD => ?_⟩
    refine dc_tup (K := K) (a := a) (xs := xs) (fun m H' => Same H H' ∧ H' D = some (.dK (keysK (.bl true) (onceS ((ps.take m).map (·.2)))))) ⟨same_upd nD, upd_same⟩ (fun m H' _ hP => SqT.of (hP.1 _ _ e)) (fun m x H' hm hP => ?_) (fun H' hP => ?_)
    · obtain ⟨s1, d1⟩ := hP
      obtain ⟨p, b, hp, rfl, e2⟩ := at_ m x hm
      have len1 : (keysK (.bl true) (onceS ((ps.take m).map (·.2)))).length < sizeLine := by
        unfold keysK
        rw [List.length_map, sizeLine_eq]
        have := onceS_le ((ps.take m).map (·.2))
        rw [List.length_map, List.length_take] at this
        omega
      refine ⟨b, _, rfl, SqT.of (s1 _ _ e2), rfl, _, _, rfl, _, _, rfl, rfl, rfl, _, rfl, _, .inr p.2, rfl, d1, len1, fun c o z => ?_, ?_⟩
      · rw [upd_ne (ne_of_none z nD)]
        exact s1 _ _ z
      · rw [upd_same, put_keysK, List.take_add_one, hp, List.map_append]
        show _ = some (HO.dK (keysK (.bl true) (onceS ((ps.take m).map (·.2) ++ [p.2]))))
        rw [onceS_snoc]
    · obtain ⟨s1, d1⟩ := hP
      rw [ln, List.take_length] at d1
      refine ⟨D, _, rfl, d1, fun t nt => q t _ (s1.trans (same_upd nt)) ?_⟩
      rw [upd_same]
      unfold keysK lensOf
      rw [List.map_map]
      rfl
end
end K02

set_option autoImplicit false
set_option maxRecDepth 100000
set_option maxHeartbeats 4000000
namespace K02
open PySem PySem.Spec PyProof.Rows L2 KX
abbrev sWordsIn : Stmt := topS 22
theorem scWordsIn : FnScope ["arrays", "positions", "values", "array", "length"] ["arrays", "positions", "values"] (defScope sWordsIn) :=
  ⟨rfl, rfl, rfl, by decide +kernel, rfl, by decide +kernel, by decide +kernel⟩
/-- a tuple of texts -/
def Txts (H : Hp) (v : V) (zs : List Str) : Prop := ∃ a : Addr, v = .ref a ∧ H a = some (.tup (zs.map V.str))
theorem Txts.same {H H' : Hp} {v : V} {zs : List Str} (t : Txts H v zs) (s : Same H H') : Txts H' v zs := t.imp fun a h => ⟨h.1, s _ _ h.2⟩
def wordsOf (ps : List (Str × Str)) (qs rs : List Str) : List Str := ps.map (·.1) ++ (lensOf ps ++ (qs ++ rs))
def spWords : Sp := fun vs H Q _ => ∃ (v1 v2 v3 : V) (ps : List (Str × Str)) (qs rs : List Str), vs = [v1, v2, v3] ∧ Arr H v1 ps ∧ Txts H v2 qs ∧ Txts H v3 rs ∧ ps.length ≤ 300 ∧ qs.length ≤ 300 ∧ rs.length ≤ 300 ∧
  ∀ (t : Addr) (H' : Hp), Same H H' → H' t = some (.tup ((wordsOf ps qs rs).map V.str)) → Q (.ref t) H'
theorem lensOf_le (ps : List (Str × Str)) : (lensOf ps).length ≤ ps.length := by
  have := onceS_le (ps.map (·.2))
  rw [List.length_map] at this
  exact this
section
variable {P : Program} {w : World} {K : PySem.W.Frag} {mg : Str → Option Value} {base : Heap}
theorem ok_words {f : Addr} {fd : FuncData} (F : Fun K "words_in" "words_in" sWordsIn f fd) (L : Fnc P w K mg base CX0 1 "lengths_in" ["arrays"] spLens) (B : Free mg) :
    FnOk P w K mg base CX0 2 f fd ["arrays", "positions", "values"] spWords := by
  refine F.ok scWordsIn (fun vs H Q E h => ?_) (fun cdv A outer s H vs Q E hr h => ?_)
  · obtain ⟨v1, v2, v3, ps, qs, rs, rfl, _⟩ := h
    rfl
  · obtain ⟨v1, v2, v3, ps, qs, rs, rfl, sh, t2, t3, few1, few2, few3, q⟩ := h
    refine ⟨_, pss_one (ps_ret (pe_tup (StX.pa_star (pe_lc (own := [("array", 3), ("length", 4)]) (g := gTup K 2 (gCons (gName 3) (gCons (gName 4) gNil))) (tt := tYes) rfl scWordsIn.nd (pi_tup (pv 0)) (blkOk_by (N := ["arrays", "positions", "values", "array", "length"]) (sc := defScope sWordsIn) (by decide +kernel))
        (fun _ _ _ _ _ => pg_tup rfl (pgs_cons (pg_name (i := 3) scWordsIn.nd rfl (Or.inl rfl) (Or.inr rfl)) (pgs_cons (pg_name (i := 4) scWordsIn.nd rfl (Or.inl rfl) (Or.inr rfl)) pgs_nil))) (fun _ _ _ _ _ => pts_nil) (fun _ _ _ _ _ => pv 3))
      (StX.pa_star (pe_fnc L hr (by omega) (by rfl) pass0 (pa_cons (pv 0) pa_nil)) (StX.pa_star (pv 1) (StX.pa_star (pv 2) pa_nil)))))), ?_⟩
    obtain ⟨a, xs, rfl, e, ln, at_⟩ := arr_get sh
    obtain ⟨a2, rfl, e2⟩ := t2
    obtain ⟨a3, rfl, e3⟩ := t3
    refine ⟨.ref a, rfl, a, rfl, ⟨_, SqT.of e⟩, fun D nD => ?_⟩
    refine lc_tup (K := K) (a := a) (xs := xs) (fun m H' => Same H H' ∧ H' D = some (.lst ((ps.take m).map fun p => V.str p.1))) ⟨same_upd nD, upd_same⟩ (fun m H' _ hP => SqT.of (hP.1 _ _ e)) (fun m x H' hm hP => ?_) (fun H' hP => ?_)
    · obtain ⟨s1, d1⟩ := hP
      obtain ⟨p, b, hp, rfl, eb⟩ := at_ m x hm
      refine ⟨b, _, rfl, SqT.of (s1 _ _ eb), rfl, _, _, rfl, _, _, rfl, rfl, rfl, _, rfl, _, d1, ?_, fun c o z => ?_, ?_⟩
      · rw [List.length_map, List.length_take, sizeLine_eq]
        omega
      · rw [upd_ne (ne_of_none z nD)]
        exact s1 _ _ z
      · rw [upd_same, List.take_add_one, hp, List.map_append]
        rfl
    · obtain ⟨s1, d1⟩ := hP
      rw [ln, List.take_length] at d1
      refine ⟨D, _, rfl, .inr (SqL.of d1), .ref a, rfl, .ref a, ps, rfl, Shw.same sh s1, by omega, fun t H2 s2 e4 => ⟨t, _, rfl, .inl (SqT.of e4), .ref a2, rfl, a2, _, rfl, .inl (SqT.of (s2 _ _ (s1 _ _ e2))), .ref a3, rfl, a3, _, rfl, .inl (SqT.of (s2 _ _ (s1 _ _ e3))), ?_, fun r nr => ?_⟩⟩
      · have l1 := lensOf_le ps
        simp only [List.length_append, List.length_map, List.length_nil, sizeLine_eq]
        omega
      · refine q r _ ((s1.trans s2).trans (same_upd nr)) ?_
        rw [upd_same]
        unfold wordsOf
        simp [List.map_append, List.map_map, Function.comp_def]
end
end K02

set_option autoImplicit false
set_option maxRecDepth 100000
set_option maxHeartbeats 4000000
namespace K02
open PySem PySem.Spec PyProof.Rows L2 KX
def txtD : PyData → Str
  | .str z => z
  | _ => ""
def itemsD : PyData → List PyData
  | .tuple ds => ds
  | _ => []
def strsD (d : PyData) : List Str := (itemsD d).map txtD
def pairD (d : PyData) : Str × Str := ((strsD d).getD 0 "", (strsD d).getD 1 "")
def prsD (d : PyData) : List (Str × Str) := (itemsD d).map pairD
theorem isNm_str {d : PyData} (h : isNm d = true) : d = .str (txtD d) := by
  cases d with
  | str z => rfl
  | _ => cases h
theorem names_are {n : Nat} {d : PyData} (h : areNm n d = true) : d = .tuple ((strsD d).map PyData.str) ∧ (strsD d).length ≤ n := by
  cases d with
  | tuple ds =>
    have h' : (decide (ds.length ≤ n) && ds.all isNm) = true := h
    rw [Bool.and_eq_true, decide_eq_true_eq] at h'
    refine ⟨?_, by show (ds.map txtD).length ≤ n; rw [List.length_map]; exact h'.1⟩
    show PyData.tuple ds = .tuple ((ds.map txtD).map PyData.str)
    rw [List.map_map]
    congr 1
    refine (List.map_id ds).symm.trans (List.map_congr_left fun y hy => ?_)
    exact isNm_str (List.all_eq_true.mp h'.2 y hy)
  | _ => cases h
theorem pair_is {d : PyData} (h : isPr d = true) : d = prD (pairD d) := by
  unfold isPr at h
  rw [Bool.and_eq_true, decide_eq_true_eq] at h
  obtain ⟨e, l⟩ := names_are h.1
  have l2 : (strsD d).length = 2 := by
    rw [e] at h
    have := h.2
    simpa [lenD] using this
  unfold prD pairD
  match hs : strsD d, l2 with
  | [y, z], _ =>
    rw [hs] at e
    exact e
theorem arrays_are {d : PyData} (h : areArr d = true) : d = .tuple ((prsD d).map prD) ∧ (prsD d).length ≤ 12 := by
  cases d with
  | tuple ds =>
    have h' : (decide (ds.length ≤ 12) && ds.all isPr) = true := h
    rw [Bool.and_eq_true, decide_eq_true_eq] at h'
    refine ⟨?_, by show (ds.map pairD).length ≤ 12; rw [List.length_map]; exact h'.1⟩
    show PyData.tuple ds = .tuple ((ds.map pairD).map prD)
    rw [List.map_map]
    congr 1
    refine (List.map_id ds).symm.trans (List.map_congr_left fun y hy => ?_)
    exact pair_is (List.all_eq_true.mp h'.2 y hy)
  | _ => cases h
def nodupW (ws : List Str) : Bool := decide (((onceS ws).length : Int) = (ws.length : Int))
def wordsD (d1 d2 d3 : PyData) : List Str := wordsOf (prsD d1) (strsD d2) (strsD d3)
def isFrame (d1 d2 d3 : PyData) : Bool := areArr d1 && (areNm 6 d2 && (areNm 6 d3 && nodupW (wordsD d1 d2 d3)))
theorem txts_of {H : Hp} {v : V} {zs : List Str} (s : Shw H v (.tuple (zs.map PyData.str))) : Txts H v zs := by
  cases s with
  | @tup a xs _ e ha =>
    refine ⟨a, rfl, ?_⟩
    have : ∀ (zs : List Str) (xs : List V), ShwAll H xs (zs.map PyData.str) → xs = zs.map V.str := fun zs => by
      induction zs with
      | nil =>
        intro xs h
        cases h
        rfl
      | cons z zs ih =>
        intro xs h
        cases h with
        | cons h1 h2 =>
          cases h1
          rw [List.map_cons, ih _ h2]
    rw [e, this zs xs ha]
abbrev sFrameOf : Stmt := topS 23
theorem scFrameOf : FnScope ["arrays", "positions", "values", "words"] ["arrays", "positions", "values"] (defScope sFrameOf) :=
  ⟨rfl, rfl, rfl, by decide +kernel, rfl, by decide +kernel, by decide +kernel⟩
def spFrameOf : Sp := fun vs H Q _ => ∃ (v1 v2 v3 : V) (d1 d2 d3 : PyData), vs = [v1, v2, v3] ∧ Shw H v1 d1 ∧ Shw H v2 d2 ∧ Shw H v3 d3 ∧ gd d1 = true ∧ gd d2 = true ∧ gd d3 = true ∧ ∀ H', Same H H' → Q (.bl (isFrame d1 d2 d3)) H'
section
variable {P : Program} {w : World} {K : PySem.W.Frag} {mg : Str → Option Value} {base : Heap}
theorem ok_frameOf {f : Addr} {fd : FuncData} {tp tv : Tok} (F : Fun K "is_frame_of" "is_frame_of" sFrameOf f fd) (A1 : Fnc P w K mg base CX0 3 "are_arrays" ["value"] spArrays) (A2 : Fnc P w K mg base CX0 2 "are_names" ["value", "most"] spNames)
    (A3 : Fnc P w K mg base CX0 2 "words_in" ["arrays", "positions", "values"] spWords) (B : Free mg) (gP : mg "MAX_POSITIONS" = some (.int 6 tp)) (gV : mg "MAX_VALUES" = some (.int 6 tv)) :
    FnOk P w K mg base CX0 4 f fd ["arrays", "positions", "values"] spFrameOf := by
  refine F.ok scFrameOf (fun vs H Q E h => ?_) (fun cdv A outer s H vs Q E hr h => ?_)
  · obtain ⟨v1, v2, v3, d1, d2, d3, rfl, _⟩ := h
    rfl
  · obtain ⟨v1, v2, v3, d1, d2, d3, rfl, s1, s2, s3, g1, g2, g3, q⟩ := h
    refine ⟨_, pss_cons (ps_if (PW.pt (pw_or (pt_not (pt_val (pe_fnc A1 hr (by omega) (by rfl) pass0 (pa_cons (pv 0) pa_nil))))
          (pw_or (pt_not (pt_val (pe_fnc A2 hr (by omega) (by rfl) pass0 (pa_cons (pv 1) (pa_cons (pe_glob (v := .int 6) (by rfl) gP ⟨_, rfl⟩) pa_nil)))))
          (pw_or1 (pt_not (pt_val (pe_fnc A2 hr (by omega) (by rfl) pass0 (pa_cons (pv 2) (pa_cons (pe_glob (v := .int 6) (by rfl) gV ⟨_, rfl⟩) pa_nil)))))))))
        (pss_one (ps_ret pe_bl)) pss_nil)
      (pss_cons (ps_set (i := 3) scFrameOf.nd rfl (.inl rfl) (pe_fnc A3 hr (by omega) (by rfl) pass0 (pa_cons (pv 0) (pa_cons (pv 1) (pa_cons (pv 2) pa_nil)))))
      (pss_one (ps_ret (pe_cmpR op_eq (pe_lenWords (by rfl) B.len (by rfl) B.set (pv 3)) (pe_callB call_len_seq (by rfl) B.len PySem.boot_len (pa_cons (pv 3) pa_nil)) (nomark _))))), ?_⟩
    refine ⟨v1, rfl, v1, d1, rfl, s1, g1, fun H1 w1 => ⟨_, rfl, ?_⟩⟩
    cases e1 : areArr d1 with
    | false =>
      have en : isFrame d1 d2 d3 = false := by
        unfold isFrame
        rw [e1, Bool.false_and]
      have z := q H1 w1
      rw [en] at z
      exact z
    | true =>
      refine ⟨v2, rfl, v2, d2, 6, rfl, Shw.same s2 w1, g2, fun H2 w2 => ⟨_, rfl, ?_⟩⟩
      cases e2 : areNm 6 d2 with
      | false =>
        have en : isFrame d1 d2 d3 = false := by
          unfold isFrame
          rw [e1, e2, Bool.false_and, Bool.and_false]
        have z := q H2 (w1.trans w2)
        rw [en] at z
        exact z
      | true =>
        refine ⟨v3, rfl, v3, d3, 6, rfl, Shw.same s3 (w1.trans w2), g3, fun H3 w3 => ⟨_, rfl, ?_⟩⟩
        have w123 := (w1.trans w2).trans w3
        cases e3 : areNm 6 d3 with
        | false =>
          have en : isFrame d1 d2 d3 = false := by
            unfold isFrame
            rw [e1, e2, e3, Bool.false_and, Bool.and_false, Bool.and_false]
          have z := q H3 w123
          rw [en] at z
          exact z
        | true =>
          obtain ⟨x1, l1⟩ := arrays_are e1
          obtain ⟨x2, l2⟩ := names_are e2
          obtain ⟨x3, l3⟩ := names_are e3
          have y1 : Arr H3 v1 (prsD d1) := by
            have y := Shw.same s1 w123
            rw [x1] at y
            exact y
          have y2 : Txts H3 v2 (strsD d2) := txts_of (by rw [← x2]; exact Shw.same s2 w123)
          have y3 : Txts H3 v3 (strsD d3) := txts_of (by rw [← x3]; exact Shw.same s3 w123)
          refine ⟨v1, rfl, v2, rfl, v3, rfl, v1, v2, v3, prsD d1, strsD d2, strsD d3, rfl, y1, y2, y3, by omega, by omega, by omega, fun t H4 w4 e4 => ?_⟩
          have few : (wordsOf (prsD d1) (strsD d2) (strsD d3)).length ≤ 100 := by
            have l4 := lensOf_le (prsD d1)
            unfold wordsOf
            simp only [List.length_append, List.length_map]
            omega
          refine ⟨_, rfl, t, _, rfl, .inr (SqT.of e4), by omega, .ref t, rfl, t, _, rfl, .inr (SqT.of e4), rfl, ?_⟩
          have en : isFrame d1 d2 d3 = decide (V.int ((once (wordsOf (prsD d1) (strsD d2) (strsD d3))).length : Nat) = V.int (((wordsOf (prsD d1) (strsD d2) (strsD d3)).map V.str).length : Nat)) := by
            unfold isFrame nodupW wordsD
            rw [e1, e2, e3, Bool.true_and, Bool.true_and, Bool.true_and, List.length_map]
            refine decide_eq_decide.mpr ⟨fun z => congrArg V.int z, fun z => V.int.inj z⟩
          have z := q H4 (w123.trans w4)
          rw [en] at z
          exact z
end
end K02

set_option autoImplicit false
set_option maxRecDepth 100000
set_option maxHeartbeats 4000000
namespace K02
open PySem PySem.Spec PyProof.Rows L2 KX
theorem onceS_full {l acc : List Str} (na : acc.Nodup) (h : (l.foldl (fun acc k => if k ∈ acc then acc else acc ++ [k]) acc).length = acc.length + l.length) : (acc ++ l).Nodup ∧ l.foldl (fun acc k => if k ∈ acc then acc else acc ++ [k]) acc = acc ++ l := by
  induction l generalizing acc with
  | nil => exact ⟨by rw [List.append_nil]; exact na, by rw [List.append_nil]; rfl⟩
  | cons k l ih =>
    have le : ∀ (l acc : List Str), (l.foldl (fun acc k => if k ∈ acc then acc else acc ++ [k]) acc).length ≤ acc.length + l.length := fun l => by
      induction l with
      | nil => exact fun acc => Nat.le_refl _
      | cons k l ih =>
        intro acc
        have y := ih (if k ∈ acc then acc else acc ++ [k])
        rw [List.foldl_cons, List.length_cons]
        by_cases m : k ∈ acc
        · rw [if_pos m] at y ⊢
          omega
        · rw [if_neg m] at y ⊢
          rw [List.length_append, List.length_singleton] at y
          omega
    rw [List.foldl_cons, List.length_cons] at h
    by_cases m : k ∈ acc
    · rw [if_pos m] at h
      have := le l acc
      omega
    · rw [if_neg m] at h
      have n2 : (acc ++ [k]).Nodup := List.nodup_append.mpr ⟨na, by simp, fun a ha b hb => by
        rw [List.mem_singleton.mp hb]
        exact fun e => m (e ▸ ha)⟩
      have y := ih n2 (by rw [h, List.length_append, List.length_singleton]; omega)
      rw [List.append_assoc] at y
      refine ⟨y.1, ?_⟩
      rw [List.foldl_cons, if_neg m]
      exact y.2
theorem nodupW_is {ws : List Str} (h : nodupW ws = true) : ws.Nodup ∧ onceS ws = ws := by
  have e := of_decide_eq_true h
  have y := onceS_full (l := ws) (acc := []) List.nodup_nil (by show (onceS ws).length = 0 + ws.length; omega)
  exact ⟨y.1, y.2⟩
theorem onceS_nodup {l : List Str} : ∀ {acc : List Str}, (acc ++ l).Nodup → l.foldl (fun acc k => if k ∈ acc then acc else acc ++ [k]) acc = acc ++ l := by
  induction l with
  | nil => exact fun _ => (List.append_nil _).symm
  | cons k l ih =>
    intro acc n
    have m : k ∉ acc := fun z => (List.nodup_append.mp n).2.2 k z k List.mem_cons_self rfl
    rw [List.foldl_cons, if_neg m, ih (by rw [List.append_assoc]; exact n), List.append_assoc]
    rfl
theorem onceS_id {l : List Str} (n : l.Nodup) : onceS l = l := onceS_nodup (acc := []) n
/-- new keys go behind -/
theorem merge_new : ∀ {more kvs : List (Key × V)}, ((kvs ++ more).map (·.1)).Nodup → mergeK kvs more = kvs ++ more
  | [], kvs, _ => (List.append_nil kvs).symm
  | kv :: more, kvs, n => by
    have m : ¬ (kvs.any fun y => decide (y.1 = kv.1)) = true := fun z => by
      obtain ⟨y, hy, e⟩ := List.any_eq_true.mp z
      rw [List.map_append, List.nodup_append] at n
      exact n.2.2 y.1 (List.mem_map.mpr ⟨y, hy, rfl⟩) kv.1 (List.mem_map.mpr ⟨kv, List.mem_cons_self, rfl⟩) (of_decide_eq_true e)
    have e : putK kvs kv.1 kv.2 = kvs ++ [kv] := by
      unfold putK
      rw [if_neg m]
    show mergeK (putK kvs kv.1 kv.2) more = _
    rw [e, merge_new (by rw [List.append_assoc]; exact n), List.append_assoc]
    rfl
/-- a dict comprehension over any walk -/
theorem dc_it {J : It} {n : Nat} {G : Hp → Prop} {Y : Nat → Hp → V → Hp → Prop} (w : Walk J n G Y) {g : TG} {tt : TT} {tk tv : TE} {vs : List Nat} {σ : L2.St} {H1 : Hp} {D : Addr} {Qd : Hp → Prop} (Pv : Nat → Hp → Prop) (h0 : Pv 0 (upd H1 D (.dK []))) (hG : ∀ i H, i ≤ n → Pv i H → G H)
    (hs : ∀ i x H H', i < n → Pv i H → Y i H x H' → g x (wipe σ vs) H' fun σ2 H2 => wipe σ2 vs = wipe σ vs ∧ tt σ2 H2 fun b H3 =>
      if b = true then tk σ2 H3 fun y H4 => tv σ2 H4 fun z H5 => ∃ kvs k, y = kV k ∧ H5 D = some (.dK kvs) ∧ kvs.length < sizeLine ∧ Pv (i + 1) (upd H5 D (.dK (putK kvs k z))) else Pv (i + 1) H3) (hd : ∀ H, Pv n H → Qd H) :
    ∃ W : Nat → Nat → Hp → Prop, (∃ m, W 0 m (upd H1 D (.dK []))) ∧ ∀ i m H, W i m H →
      (J.stop i H ∧ Qd H) ∨ (J.go i H ∧ ∃ Nx : Hp → Prop, (∀ H', Nx H' → ∃ m', m' < m ∧ W (i + 1) m' H') ∧ ∀ x H', J.yld i H x H' → g x (wipe σ vs) H' fun σ2 H2 => wipe σ2 vs = wipe σ vs ∧ tt σ2 H2 fun b H3 =>
        if b = true then tk σ2 H3 fun y H4 => tv σ2 H4 fun z H5 => ∃ kvs k, y = kV k ∧ H5 D = some (.dK kvs) ∧ kvs.length < sizeLine ∧ Nx (upd H5 D (.dK (putK kvs k z))) else Nx H3) := by
  refine ⟨fun i m H => m = n - i ∧ i ≤ n ∧ Pv i H, ⟨n, rfl, Nat.zero_le _, h0⟩, ?_⟩
  rintro i m H ⟨rfl, hi, p⟩
  rcases Nat.lt_or_ge i n with lt | ge
  · exact .inr ⟨w.goes i H lt (hG i H hi p), Pv (i + 1), fun H' p' => ⟨n - (i + 1), by omega, rfl, lt, p'⟩, fun x H' y => hs i x H H' lt p (w.yields i H x H' lt (hG i H hi p) y)⟩
  · obtain rfl : i = n := Nat.le_antisymm hi ge
    exact .inl ⟨w.stops H (hG i H hi p), hd H p⟩
/-- {word: v for word in ..}, the words told by a walk -/
theorem dc_words {J : It} {G : Hp → Prop} {Y : Nat → Hp → V → Hp → Prop} {zs : List Str} {i0 : Nat} {v : V} {vs : List Nat} {σ : L2.St} {H1 : Hp} {D : Addr} {Qd : Hp → Prop} (w : Walk J zs.length G Y) (n : H1 D = none) (few : zs.length ≤ 1000) (nd : zs.Nodup)
    (hG : ∀ H', Same H1 H' → G H') (hY : ∀ i H x H', i < zs.length → Y i H x H' → H' = H ∧ ∃ z, zs[i]? = some z ∧ x = .str z) (l0 : i0 < σ.length) (hw : wipe ((wipe σ vs).set i0 (some (.str ""))) vs = wipe σ vs)
    (hw2 : ∀ x : V, wipe ((wipe σ vs).set i0 (some x)) vs = wipe σ vs) (fin : ∀ H', Same H1 H' → H' D = some (.dK (keysK v zs)) → Qd H') :
    ∃ W : Nat → Nat → Hp → Prop, (∃ m, W 0 m (upd H1 D (.dK []))) ∧ ∀ i m H, W i m H →
      (J.stop i H ∧ Qd H) ∨ (J.go i H ∧ ∃ Nx : Hp → Prop, (∀ H', Nx H' → ∃ m', m' < m ∧ W (i + 1) m' H') ∧ ∀ x H', J.yld i H x H' → gName i0 x (wipe σ vs) H' fun σ2 H2 => wipe σ2 vs = wipe σ vs ∧ tYes σ2 H2 fun b H3 =>
        if b = true then tVar i0 σ2 H3 fun y H4 => tC v σ2 H4 fun z H5 => ∃ kvs k, y = kV k ∧ H5 D = some (.dK kvs) ∧ kvs.length < sizeLine ∧ Nx (upd H5 D (.dK (putK kvs k z))) else Nx H3) := by
  refine dc_it w (fun m H' => Same H1 H' ∧ H' D = some (.dK (keysK v (onceS (zs.take m))))) ⟨same_upd n, upd_same⟩ (fun m H' _ hP => hG H' hP.1) (fun m x H' H'' hm hP hy => ?_) (fun H' hP => ?_)
  · obtain ⟨s1, d1⟩ := hP
    obtain ⟨rfl, z, hz, rfl⟩ := hY m H' x H'' hm hy
    have short : (keysK v (onceS (zs.take m))).length < sizeLine := by
      unfold keysK
      rw [List.length_map, sizeLine_eq]
      have := onceS_le (zs.take m)
      rw [List.length_take] at this
      omega
    refine ⟨hw2 _, .str z, ?_, _, .inr z, rfl, d1, short, fun c o e => ?_, ?_⟩
    · rw [List.getElem?_set_self (by rw [wipe_length]; exact l0)]
    · rw [upd_ne (ne_of_none e n)]
      exact s1 _ _ e
    · rw [upd_same, put_keysK, List.take_add_one, hz]
      show _ = some (HO.dK (keysK v (onceS (zs.take m ++ [z]))))
      rw [onceS_snoc]
  · obtain ⟨s1, d1⟩ := hP
    rw [List.take_length, onceS_id nd] at d1
    exact fin H' s1 d1
end K02

set_option autoImplicit false
set_option maxRecDepth 100000
set_option maxHeartbeats 4000000
namespace K02
open PySem PySem.Spec PyProof.Rows L2 KX
/-- what is no instance stays -/
def Keep (H H' : Hp) : Prop := ∀ b o, H b = some o → (∀ C dx fs, o ≠ .ins C dx fs) → H' b = some o
theorem Keep.refl {H : Hp} : Keep H H := fun _ _ e _ => e
theorem Keep.trans {H H1 H2 : Hp} (a : Keep H H1) (b : Keep H1 H2) : Keep H H2 := fun c o e n => b c o (a c o e n) n
theorem Keep.same {H H1 : Hp} (a : Same H H1) : Keep H H1 := fun c o e _ => a c o e
theorem Keep.put {H : Hp} {p C : Addr} {dx : Addr} {fs : List (Str × V)} {o' : HO} (h : H p = some (.ins C dx fs)) : Keep H (upd H p o') := fun b o e n => by
  by_cases z : b = p
  · rw [z, h] at e
    cases e
    exact absurd rfl (n _ _ _)
  · rw [upd_ne z]
    exact e
section
variable {H H' : Hp}
mutual
theorem Shw.keep (g : Keep H H') : ∀ {v : V} {d : PyData}, Shw H v d → Shw H' v d
  | _, _, .non => .non
  | _, _, .bl b => .bl b
  | _, _, .int i => .int i
  | _, _, .str x => .str x
  | _, _, .lst h r => .lst (g _ _ h fun _ _ _ z => nomatch z) (ShwAll.keep g r)
  | _, _, .tup h r => .tup (g _ _ h fun _ _ _ z => nomatch z) (ShwAll.keep g r)
  | _, _, .dct h => .dct (g _ _ h fun _ _ _ z => nomatch z)
theorem ShwAll.keep (g : Keep H H') : ∀ {vs : List V} {ds : List PyData}, ShwAll H vs ds → ShwAll H' vs ds
  | _, _, .nil => .nil
  | _, _, .cons a r => .cons (Shw.keep g a) (ShwAll.keep g r)
end
end
theorem Txts.keep {H H' : Hp} {v : V} {zs : List Str} (t : Txts H v zs) (g : Keep H H') : Txts H' v zs := by
  obtain ⟨a, e, h⟩ := t
  exact ⟨a, e, g _ _ h fun _ _ _ z => nomatch z⟩
theorem putF_new {f : Str} {v : V} : ∀ {fs : List (Str × V)}, (∀ kv ∈ fs, kv.1 ≠ f) → putF f v fs = fs ++ [(f, v)]
  | [], _ => rfl
  | kv :: fs, h => by
    unfold putF
    rw [if_neg (h kv List.mem_cons_self), putF_new fun y hy => h y (List.mem_cons_of_mem _ hy)]
    rfl
theorem putF_zip {ns : List Str} {vs : List V} {f : Str} {v : V} (n : (ns.all fun k => !decide (k = f)) = true) (l : ns.length = vs.length) : putF f v (ns.zip vs) = (ns ++ [f]).zip (vs ++ [v]) := by
  rw [putF_new fun kv h => ?_, List.zip_append l]
  · rfl
  · have m := (List.of_mem_zip (show (kv.1, kv.2) ∈ ns.zip vs from h)).1
    have z := List.all_eq_true.mp n _ m
    intro e
    rw [decide_eq_true e] at z
    cases z
theorem lookup_zip {f : Str} : ∀ {ns : List Str} {vs : List V} {i : Nat}, ns.findIdx? (fun k => f == k) = some i → ns.length = vs.length → (ns.zip vs).lookup f = vs[i]?
  | [], _, _, h, _ => by cases h
  | n :: ns, v :: vs, i, h, l => by
    rw [List.findIdx?_cons] at h
    rw [List.zip_cons_cons, List.lookup_cons]
    cases e : f == n with
    | true =>
      rw [e] at h
      cases h
      rfl
    | false =>
      rw [e] at h
      obtain ⟨j, hj, rfl⟩ := Option.map_eq_some_iff.mp (show Option.map (· + 1) (ns.findIdx? fun k => f == k) = some i from h)
      exact lookup_zip hj (Nat.succ.inj l)
def lenK (ps : List (Str × Str)) : List (Key × V) := ps.map fun p => ((.inr p.1 : Key), V.str p.2)
theorem lenK_keys (ps : List (Str × Str)) : (lenK ps).map (·.1) = (ps.map (·.1)).map fun z => (.inr z : Key) := by
  unfold lenK
  rw [List.map_map, List.map_map]
  rfl
theorem keysK_keys (v : V) (zs : List Str) : (keysK v zs).map (·.1) = zs.map fun z => (.inr z : Key) := by
  unfold keysK
  rw [List.map_map]
  rfl
theorem nd_inr {zs : List Str} (n : zs.Nodup) : (zs.map fun z => (.inr z : Key)).Nodup := by
  refine List.Pairwise.map _ (fun a b h e => h (Sum.inr.inj e)) n
theorem putK_lenK {ps : List (Str × Str)} {m : Nat} {p : Str × Str} (n : (ps.map (·.1)).Nodup) (h : ps[m]? = some p) : putK (lenK (ps.take m)) (.inr p.1) (.str p.2) = lenK (ps.take (m + 1)) := by
  have e : lenK (ps.take (m + 1)) = lenK (ps.take m) ++ [((.inr p.1 : Key), V.str p.2)] := by
    unfold lenK
    rw [List.take_add_one, h, List.map_append]
    rfl
  rw [e]
  refine merge_new (more := [((.inr p.1 : Key), V.str p.2)]) ?_
  rw [← e, lenK_keys]
  refine nd_inr ?_
  rw [List.map_take]
  exact n.sublist (List.take_sublist _ _)
def kindsOf (ps : List (Str × Str)) (qs rs : List Str) : List (Key × V) := ((keysK (.str "array") (ps.map (·.1)) ++ keysK (.str "length") (lensOf ps)) ++ keysK (.str "position") qs) ++ keysK (.str "value") rs
theorem kinds_keys (ps : List (Str × Str)) (qs rs : List Str) : (kindsOf ps qs rs).map (·.1) = (wordsOf ps qs rs).map fun z => (.inr z : Key) := by
  unfold kindsOf wordsOf
  simp only [List.map_append, keysK_keys, List.append_assoc]
def frN : List Str := ["_arrays", "_positions", "_amounts", "_lengths", "_length_of", "_kinds"]
/-- a frame stands at p -/
structure FrameAt (C : Addr) (H : Hp) (p : Addr) (v1 v2 v3 : V) (ps : List (Str × Str)) (qs rs : List Str) : Prop where
  ob : ∃ (dx t d e : Addr), H p = some (.ins C dx (frN.zip [v1, v2, v3, .ref t, .ref d, .ref e])) ∧ H t = some (.tup ((lensOf ps).map V.str)) ∧ H d = some (.dK (lenK ps)) ∧ H e = some (.dK (kindsOf ps qs rs))
  ar : Arr H v1 ps
  po : Txts H v2 qs
  va : Txts H v3 rs
end K02

set_option autoImplicit false
set_option maxRecDepth 100000
set_option maxHeartbeats 4000000
namespace K02
open PySem PySem.Spec PyProof.Rows L2 KX
/-- C('m'), a class without an __init__ -/
structure MkP (K : PySem.W.Frag) (mg : Str → Option Value) (x : Str) (C : Addr) : Prop where
  ov : PySem.W.excIn K C [.type "ValueError", .type "Exception", .type "BaseException", .type "object"] "ValueError.__new__" = true
  hm : mg x = some (.ref C)
  kC : PySem.W.keepIn K (.ref C) = true
  exC : PySem.W.subIn K (.ref C) (.type "BaseException") = some true
  tyC : PySem.W.typeIn K (.ref C) = some (.type "type")
section
variable {X : Cx} {x : Str} {C : Addr} {p pos : Pos}
theorem pmk_mkP {m : Str} {j : Nat} {p2 : Pos} (M : MkP X.K X.mg x C) (hg : Gl X x) (hdb : (x == ("__debug__" : Str)) = false := by decide) :
    PMk X (.Call (.Name x p) [.Constant (.str m) j p2] [] pos) (fun _ H Q => Q (.ref C) none H) :=
  pmk_own PySem.F.excBase_ValueError M.ov M.hm M.kC (raises_own M.exC M.tyC) hg hdb
theorem pmk_mkPN {m : Str} {j : Nat} {p2 : Pos} (M : MkP X.K X.mg x C) (hg : Gl X x) (hdb : (x == ("__debug__" : Str)) = false := by decide) :
    L2N.PMk X (.Call (.Name x p) [.Constant (.str m) j p2] [] pos) (fun _ H Q => Q (.ref C) none H) :=
  L2N.pmk_own PySem.F.excBase_ValueError M.ov M.hm M.kC (raises_own M.exC M.tyC) hg hdb
end
/-- what the walk asks of class Frame -/
structure FrTxt (K : PySem.W.Frag) (mg : Str → Option Value) (C : Addr) : Prop where
  cl : Cls K C
  no : ∀ f ∈ frN, NoAttr K C f
/-- on the way: the fields so far; all but the instance as it was -/
structure Mid (H1 : Hp) (p C dx : Addr) (F : List (Str × V)) (H' : Hp) : Prop where
  own : H' p = some (.ins C dx F)
  off : ∀ b o, H1 b = some o → b ≠ p → H' b = some o
section
variable {H1 H' H2 : Hp} {p C dx : Addr} {F F' : List (Str × V)}
theorem Mid.put (m : Mid H1 p C dx F H') : Mid H1 p C dx F' (upd H' p (.ins C dx F')) := ⟨upd_same, fun b o e n => by rw [upd_ne n]; exact m.off b o e n⟩
theorem Mid.same (m : Mid H1 p C dx F H') (s : Same H' H2) : Mid H1 p C dx F H2 := ⟨s _ _ m.own, fun b o e n => s _ _ (m.off b o e n)⟩
theorem Mid.keep (m : Mid H1 p C dx F H') (h : H1 p = some (.ins C dx [])) : Keep H1 H' := fun b o e n => m.off b o e fun z => by
  rw [z, h] at e
  cases e
  exact n _ _ _ rfl
end
theorem unlock_same {H H' : Hp} {d : Addr} {o : Obj} {u : HO} (h : H d = some u) (s : Same (upd H d (.frz o u)) H') : Same H (upd H' d u) := fun b x e => by
  by_cases z : b = d
  · rw [z, upd_same]
    rw [z, h] at e
    exact e
  · rw [upd_ne z]
    exact s _ _ (by rw [upd_ne z]; exact e)
section
variable {K : PySem.W.Frag} {tl : TE} {ts : List TE} {E : Addr} {kvs : List (Key × V)} {σ : L2.St} {H H7 : Hp} {Q : List (Key × V) → Hp → Prop} {b : Addr} {zs : List Str} {v : V} {i0 : Nat} {vs : List Nat}
theorem keysK_len (v : V) (zs : List Str) : (keysK v zs).length = zs.length := by
  unfold keysK
  rw [List.length_map]
/-- **{word: v for word in (a tuple of words)}, of words that are new -/
theorem star_tup (S : Same H7 H) (nE : H7 E = none) (eE : H E = some (.dK kvs)) (eb : H7 b = some (.tup (zs.map V.str))) (nd : zs.Nodup) (few : zs.length ≤ 1000) (ndk : ((kvs ++ keysK v zs).map (·.1)).Nodup) (fewk : kvs.length ≤ 1000)
    (l0 : i0 < σ.length) (hw : wipe ((wipe σ vs).set i0 (some (.str ""))) vs = wipe σ vs) (hw2 : ∀ x : V, wipe ((wipe σ vs).set i0 (some x)) vs = wipe σ vs) (rd : ∀ R : V → Hp → Prop, R (.ref b) H → tl σ H R)
    (next : ∀ H', Same H7 H' → H' E = some (.dK (kvs ++ keysK v zs)) → tStarsL ts E (kvs ++ keysK v zs) σ H' Q) :
    tStarsL (tDc (iTup K tl) (gName i0) tYes (tVar i0) (tC v) vs :: ts) E kvs σ H Q := by
  refine rd _ ⟨b, rfl, ⟨_, SqT.of (S _ _ eb)⟩, fun D nD => ?_⟩
  have wk : Walk (Itt K b) zs.length (fun H => SqT K H b (zs.map V.str)) (YAt (zs.map V.str)) := by
    have y := walk_tup (K := K) (a := b) (xs := zs.map V.str)
    rw [List.length_map] at y
    exact y
  refine dc_words wk nD few nd (fun H' s => SqT.of (s _ _ (S _ _ eb))) (fun i H1 x H2 lt y => ?_) l0 hw hw2 fun H' s e => ⟨D, keysK v zs, rfl, ne_of_none eE nD, s _ _ eE, e, ?_, ?_⟩
  · obtain ⟨r1, r2⟩ := y
    rw [List.getElem?_map] at r2
    obtain ⟨z, r3, rfl⟩ := Option.map_eq_some_iff.mp r2
    exact ⟨r1, z, r3, rfl⟩
  · rw [keysK_len, sizeLine_eq]
    omega
  · rw [merge_new ndk]
    refine next _ (fun c o z => ?_) upd_same
    rw [upd_ne (ne_of_none z nE)]
    exact s _ _ (S _ _ z)
/-- .. of a dict's keys, under its lock -/
theorem star_keys {d : Addr} {ps : List (Str × Str)} (S : Same H7 H) (nE : H7 E = none) (eE : H E = some (.dK kvs)) (ed : H7 d = some (.dK (lenK ps))) (nd : (ps.map (·.1)).Nodup) (few : ps.length ≤ 1000) (ndk : ((kvs ++ keysK v (ps.map (·.1))).map (·.1)).Nodup) (fewk : kvs.length ≤ 1000)
    (l0 : i0 < σ.length) (hw : wipe ((wipe σ vs).set i0 (some (.str ""))) vs = wipe σ vs) (hw2 : ∀ x : V, wipe ((wipe σ vs).set i0 (some x)) vs = wipe σ vs) (rd : ∀ (o : HO) (R : V → Hp → Prop), R (.ref d) (upd H d o) → tl σ (upd H d o) R)
    (next : ∀ H', Same H7 H' → H' E = some (.dK (kvs ++ keysK v (ps.map (·.1)))) → tStarsL ts E (kvs ++ keysK v (ps.map (·.1))) σ H' Q) :
    tStarsL (tLockE (tDc (iKeys tl) (gName i0) tYes (tVar i0) (tC v) vs) :: ts) E kvs σ H Q := by
  have hd := S _ _ ed
  have dE : d ≠ E := ne_of_none ed nE
  refine ⟨d, .dK (lenK ps), hd, trivial, fun od => rd _ _ ⟨d, od, rfl, .inl ⟨lenK ps, upd_same, fun D nD => ?_⟩⟩⟩
  have wk : Walk (Itk d od (lenK ps)) (ps.map (·.1)).length (fun H => H d = some (.frz od (.dK (lenK ps)))) (fun i H x H' => H' = H ∧ ∃ k v, (lenK ps)[i]? = some (k, v) ∧ x = kV k) := by
    have y := walk_keys (d := d) (o := od) (kvs := lenK ps)
    have el : (lenK ps).length = (ps.map (·.1)).length := by
      unfold lenK
      rw [List.length_map, List.length_map]
    rw [el] at y
    exact y
  have Ed : (upd H d (.frz od (.dK (lenK ps)))) E = some (.dK kvs) := by rw [upd_ne dE.symm]; exact eE
  have nDd : D ≠ d := fun z => by rw [z, upd_same] at nD; cases nD
  refine dc_words wk nD (by rw [List.length_map]; exact few) nd (fun H' s => s _ _ upd_same) (fun i H1 x H2 lt y => ?_) l0 hw hw2 fun H' s e => ⟨s _ _ upd_same, D, keysK v (ps.map (·.1)), rfl, ne_of_none Ed nD, ?_, ?_, ?_, ?_⟩
  · obtain ⟨r1, k, u, r2, rfl⟩ := y
    unfold lenK at r2
    rw [List.getElem?_map] at r2
    obtain ⟨z, r3, r4⟩ := Option.map_eq_some_iff.mp r2
    cases r4
    refine ⟨r1, z.1, ?_, rfl⟩
    rw [List.getElem?_map, r3]
    rfl
  · rw [upd_ne dE.symm]
    exact s _ _ Ed
  · rw [upd_ne nDd]
    exact e
  · rw [keysK_len, List.length_map, sizeLine_eq]
    omega
  · rw [merge_new ndk]
    have u := unlock_same hd s
    refine next _ (fun c o z => ?_) upd_same
    rw [upd_ne (ne_of_none z nE)]
    exact u _ _ (S _ _ z)
end
theorem isFrame_is {d1 d2 d3 : PyData} (h : isFrame d1 d2 d3 = true) : areArr d1 = true ∧ areNm 6 d2 = true ∧ areNm 6 d3 = true ∧ (wordsD d1 d2 d3).Nodup := by
  unfold isFrame at h
  rw [Bool.and_eq_true, Bool.and_eq_true, Bool.and_eq_true] at h
  exact ⟨h.1, h.2.1, h.2.2.1, (nodupW_is h.2.2.2).1⟩
abbrev sInit : Stmt := inClass (topS 30) 0
abbrev nInit : List Str := ["self", "arrays", "positions", "values", "array", "length", "word"]
theorem scInit : FnScope nInit ["self", "arrays", "positions", "values"] (defScope sInit) :=
  ⟨rfl, rfl, rfl, by decide +kernel, rfl, by decide +kernel, by decide +kernel⟩
def spInit (C CI : Addr) : Sp := fun vs H Q E => ∃ (p dx : Addr) (v1 v2 v3 : V) (d1 d2 d3 : PyData), vs = [.ref p, v1, v2, v3] ∧ H p = some (.ins C dx []) ∧ Shw H v1 d1 ∧ Shw H v2 d2 ∧ Shw H v3 d3 ∧ gd d1 = true ∧ gd d2 = true ∧ gd d3 = true ∧
  (isFrame d1 d2 d3 = false → ∀ H', Same H H' → E (.ref CI) none H') ∧
  (isFrame d1 d2 d3 = true → ∀ H', (∀ b o, H b = some o → b ≠ p → H' b = some o) → FrameAt C H' p v1 v2 v3 (prsD d1) (strsD d2) (strsD d3) → Q .non H')
section
variable {P : Program} {w : World} {K : PySem.W.Frag} {mg : Str → Option Value} {base : Heap}
theorem ok_init {f C CI : Addr} {fd : FuncData} (F : Fun K "__init__" "Frame.__init__" sInit f fd) (T : FrTxt K mg C) (M : MkP K mg "InvalidFrame" CI) (FO : Fnc P w K mg base CX0 4 "is_frame_of" ["arrays", "positions", "values"] spFrameOf)
    (L : Fnc P w K mg base CX0 1 "lengths_in" ["arrays"] spLens) : FnOk P w K mg base (L2N.CX P w) 5 f fd ["self", "arrays", "positions", "values"] (spInit C CI) := by
  refine okN F scInit (fun vs H Q E h => ?_) (fun cdv A outer s H vs Q E hr h => ?_)
  · obtain ⟨p, dx, v1, v2, v3, d1, d2, d3, rfl, _⟩ := h
    rfl
  · obtain ⟨p, dx, v1, v2, v3, d1, d2, d3, rfl, hp, s1, s2, s3, g1, g2, g3, bad, good⟩ := h
    refine ⟨_, pss_cons (ps_if (pt_not (pt_val (pe_fnc FO hr (by omega) (by rfl) pass0 (pa_cons (pv 1) (pa_cons (pv 2) (pa_cons (pv 3) pa_nil)))))) (pss_one (L2N.ps_raise rfl (L2N.takes_of rfl rfl rfl rfl) (pmk_mkPN M (by rfl)))) pss_nil)
      (pss_cons (ps_fld (pv 0) (pv 1) rfl)
      (pss_cons (ps_fld (pv 0) (pv 2) rfl)
      (pss_cons (ps_fld (pv 0) (pv 3) rfl)
      (pss_cons (ps_fld (pv 0) (pe_fnc L hr (by omega) (by rfl) pass0 (pa_cons (pv 1) pa_nil)) rfl)
      (pss_cons (ps_fld (pv 0) (pe_dc (own := [("array", 4), ("length", 5)]) (g := gTup K 2 (gCons (gName 4) (gCons (gName 5) gNil))) (tt := tYes) rfl scInit.nd (pi_tup (pv 1)) (blkOk_by (N := nInit) (sc := defScope sInit) (by decide +kernel))
          (fun _ _ _ _ _ => pg_tup rfl (pgs_cons (pg_name (i := 4) scInit.nd rfl (Or.inl rfl) (Or.inr rfl)) (pgs_cons (pg_name (i := 5) scInit.nd rfl (Or.inl rfl) (Or.inr rfl)) pgs_nil))) (fun _ _ _ _ _ => pts_nil)
          (fun _ _ _ _ _ => pv 4) (fun _ _ _ _ _ => pv 5)) rfl)
      (pss_one (ps_fld (pv 0) (pe_stars (PStars.cons (pe_lock (pe_dc (own := [("word", 6)]) (g := gName 6) (tt := tYes) rfl scInit.nd (pi_keys (pe_fld (pv 0) rfl)) (blkOk_by (N := nInit) (sc := defScope sInit) (by decide +kernel))
            (fun _ _ _ _ _ => pg_name (i := 6) scInit.nd rfl (Or.inl rfl)) (fun _ _ _ _ _ => pts_nil) (fun _ _ _ _ _ => pv 6) (fun _ _ _ _ _ => pe_str)))
          (PStars.cons (pe_dc (own := [("word", 6)]) (g := gName 6) (tt := tYes) rfl scInit.nd (pi_tup (pe_fld (pv 0) rfl)) (blkOk_by (N := nInit) (sc := defScope sInit) (by decide +kernel))
            (fun _ _ _ _ _ => pg_name (i := 6) scInit.nd rfl (Or.inl rfl)) (fun _ _ _ _ _ => pts_nil) (fun _ _ _ _ _ => pv 6) (fun _ _ _ _ _ => pe_str))
          (PStars.cons (pe_dc (own := [("word", 6)]) (g := gName 6) (tt := tYes) rfl scInit.nd (pi_tup (pv 2)) (blkOk_by (N := nInit) (sc := defScope sInit) (by decide +kernel))
            (fun _ _ _ _ _ => pg_name (i := 6) scInit.nd rfl (Or.inl rfl)) (fun _ _ _ _ _ => pts_nil) (fun _ _ _ _ _ => pv 6) (fun _ _ _ _ _ => pe_str))
          (PStars.cons (pe_dc (own := [("word", 6)]) (g := gName 6) (tt := tYes) rfl scInit.nd (pi_tup (pv 3)) (blkOk_by (N := nInit) (sc := defScope sInit) (by decide +kernel))
            (fun _ _ _ _ _ => pg_name (i := 6) scInit.nd rfl (Or.inl rfl)) (fun _ _ _ _ _ => pts_nil) (fun _ _ _ _ _ => pv 6) (fun _ _ _ _ _ => pe_str)) PStars.nil)))) rfl (by nofun)) rfl))))))), ?_⟩
    refine ⟨v1, rfl, v2, rfl, v3, rfl, v1, v2, v3, d1, d2, d3, rfl, s1, s2, s3, g1, g2, g3, fun H1 w1 => ⟨_, rfl, ?_⟩⟩
    cases e : isFrame d1 d2 d3 with
    | false => exact bad e H1 w1
    | true =>
      obtain ⟨x1, x2, x3, nd⟩ := isFrame_is e
      obtain ⟨a1, l1⟩ := arrays_are x1
      obtain ⟨a2, l2⟩ := names_are x2
      obtain ⟨a3, l3⟩ := names_are x3
      have y1 : Arr H1 v1 (prsD d1) := by
        have y := Shw.same s1 w1
        rw [a1] at y
        exact y
      have y2 : Txts H1 v2 (strsD d2) := txts_of (by rw [← a2]; exact Shw.same s2 w1)
      have y3 : Txts H1 v3 (strsD d3) := txts_of (by rw [← a3]; exact Shw.same s3 w1)
      have hp1 := w1 _ _ hp
      replace good := fun (H' : Hp) (g : ∀ b o, H1 b = some o → b ≠ p → H' b = some o) => good e H' fun b o z n => g b o (w1 b o z) n
      clear bad e a1 a2 a3 x1 x2 x3 g1 g2 g3 s1 s2 s3
      have nd' : (wordsOf (prsD d1) (strsD d2) (strsD d3)).Nodup := nd
      clear nd
      generalize prsD d1 = ps at *
      generalize strsD d2 = qs at *
      generalize strsD d3 = rs at *
      have ln := lensOf_le ps
      have nd := nd'
      unfold wordsOf at nd
      have nA := (List.nodup_append.mp nd).1
      have nR := (List.nodup_append.mp nd).2.1
      have nL := (List.nodup_append.mp nR).1
      have nQR := (List.nodup_append.mp nR).2.1
      have nQ := (List.nodup_append.mp nQR).1
      have nV := (List.nodup_append.mp nQR).2.1
      have m0 : Mid H1 p C dx [] H1 := ⟨hp1, fun _ _ e _ => e⟩
      have f1 : putF "_arrays" v1 [] = (["_arrays"] : List Str).zip [v1] := putF_zip (ns := []) (vs := []) (by decide +kernel) rfl
      refine ⟨v1, rfl, .ref p, rfl, p, C, dx, _, rfl, m0.own, T.cl, T.no _ (by decide +kernel), (by show 0 < 1000; decide), ?_⟩
      rw [f1]
      have m1 := m0.put (F' := (["_arrays"] : List Str).zip [v1])
      have f2 : putF "_positions" v2 ((["_arrays"] : List Str).zip [v1]) = (["_arrays", "_positions"] : List Str).zip [v1, v2] := putF_zip (by decide +kernel) rfl
      refine ⟨v2, rfl, .ref p, rfl, p, C, dx, _, rfl, m1.own, T.cl, T.no _ (by decide +kernel), (by show 1 < 1000; decide), ?_⟩
      rw [f2]
      have m2 := m1.put (F' := (["_arrays", "_positions"] : List Str).zip [v1, v2])
      have f3 : putF "_amounts" v3 ((["_arrays", "_positions"] : List Str).zip [v1, v2]) = (["_arrays", "_positions", "_amounts"] : List Str).zip [v1, v2, v3] := putF_zip (by decide +kernel) rfl
      refine ⟨v3, rfl, .ref p, rfl, p, C, dx, _, rfl, m2.own, T.cl, T.no _ (by decide +kernel), (by show 2 < 1000; decide), ?_⟩
      rw [f3]
      have m3 := m2.put (F' := (["_arrays", "_positions", "_amounts"] : List Str).zip [v1, v2, v3])
      generalize upd (upd (upd H1 p _) p _) p _ = H3 at m3 ⊢
      refine ⟨v1, rfl, v1, ps, rfl, Shw.keep (m3.keep hp1) y1, by omega, fun t H4 w4 e4 => ?_⟩
      have m4 := m3.same w4
      have f4 : putF "_lengths" (.ref t) ((["_arrays", "_positions", "_amounts"] : List Str).zip [v1, v2, v3]) = (["_arrays", "_positions", "_amounts", "_lengths"] : List Str).zip [v1, v2, v3, .ref t] := putF_zip (by decide +kernel) rfl
      refine ⟨.ref p, rfl, p, C, dx, _, rfl, m4.own, T.cl, T.no _ (by decide +kernel), (by show 3 < 1000; decide), ?_⟩
      rw [f4]
      have m5 := m4.put (F' := (["_arrays", "_positions", "_amounts", "_lengths"] : List Str).zip [v1, v2, v3, .ref t])
      have np : t ≠ p := fun z => by rw [z, m4.own] at e4; cases e4
      have e5 : (upd H4 p (.ins C dx ((["_arrays", "_positions", "_amounts", "_lengths"] : List Str).zip [v1, v2, v3, .ref t]))) t = some (.tup ((lensOf ps).map V.str)) := by rw [upd_ne np]; exact e4
      generalize upd H4 p _ = H5 at m5 e5 ⊢
      have y15 := Shw.keep (m5.keep hp1) y1
      obtain ⟨a, xs, rfl, ea, lx, at_⟩ := arr_get y15
      refine ⟨.ref a, rfl, a, rfl, ⟨_, SqT.of ea⟩, fun D nD => ?_⟩
      refine dc_tup (K := K) (a := a) (xs := xs) (fun m H' => Same H5 H' ∧ H' D = some (.dK (lenK (ps.take m)))) ⟨same_upd nD, upd_same⟩ (fun m H' _ hP => SqT.of (hP.1 _ _ ea)) (fun m x H' hm hP => ?_) (fun H6 hP => ?_)
      · obtain ⟨u1, u2⟩ := hP
        obtain ⟨q, b, hq, rfl, eb⟩ := at_ m x hm
        have short : (lenK (ps.take m)).length < sizeLine := by
          unfold lenK
          rw [List.length_map, List.length_take, sizeLine_eq]
          omega
        refine ⟨b, _, rfl, SqT.of (u1 _ _ eb), rfl, _, _, rfl, _, _, rfl, rfl, rfl, _, rfl, _, rfl, _, .inr q.1, rfl, u2, short, fun c o z => ?_, ?_⟩
        · rw [upd_ne (ne_of_none z nD)]
          exact u1 _ _ z
        · rw [upd_same, putK_lenK nA hq]
      · obtain ⟨w6, e6⟩ := hP
        rw [lx, List.take_length] at e6
        have m6 := m5.same w6
        have f5 : putF "_length_of" (.ref D) ((["_arrays", "_positions", "_amounts", "_lengths"] : List Str).zip [.ref a, v2, v3, .ref t]) = (["_arrays", "_positions", "_amounts", "_lengths", "_length_of"] : List Str).zip [.ref a, v2, v3, .ref t, .ref D] := putF_zip (by decide +kernel) rfl
        refine ⟨.ref p, rfl, p, C, dx, _, rfl, m6.own, T.cl, T.no _ (by decide +kernel), (by show 4 < 1000; decide), ?_⟩
        rw [f5]
        have m7 := m6.put (F' := (["_arrays", "_positions", "_amounts", "_lengths", "_length_of"] : List Str).zip [.ref a, v2, v3, .ref t, .ref D])
        have nD' : D ≠ p := fun z => by rw [z, m6.own] at e6; cases e6
        have d7 : (upd H6 p (.ins C dx ((["_arrays", "_positions", "_amounts", "_lengths", "_length_of"] : List Str).zip [.ref a, v2, v3, .ref t, .ref D]))) D = some (.dK (lenK ps)) := by rw [upd_ne nD']; exact e6
        have t7 : (upd H6 p (.ins C dx ((["_arrays", "_positions", "_amounts", "_lengths", "_length_of"] : List Str).zip [.ref a, v2, v3, .ref t, .ref D]))) t = some (.tup ((lensOf ps).map V.str)) := by rw [upd_ne np]; exact w6 _ _ e5
        generalize upd H6 p _ = H7 at m7 d7 t7 ⊢
        intro E nE
        obtain ⟨b2, rfl, eb2⟩ := y2.keep (m7.keep hp1)
        obtain ⟨b3, rfl, eb3⟩ := y3.keep (m7.keep hp1)
        have kn := nd_inr nd'
        rw [← kinds_keys] at kn
        have kn3 : (((keysK (.str "array") (ps.map (·.1)) ++ keysK (.str "length") (lensOf ps)) ++ keysK (.str "position") qs).map (·.1)).Nodup := by
          unfold kindsOf at kn
          rw [List.map_append] at kn
          exact (List.nodup_append.mp kn).1
        have kn2 : ((keysK (.str "array") (ps.map (·.1)) ++ keysK (.str "length") (lensOf ps)).map (·.1)).Nodup := by
          rw [List.map_append] at kn3
          exact (List.nodup_append.mp kn3).1
        have kn1 : ((([] : List (Key × V)) ++ keysK (.str "array") (ps.map (·.1))).map (·.1)).Nodup := by
          rw [List.map_append] at kn2
          exact (List.nodup_append.mp kn2).1
        have nDp : D ≠ p := nD'
        refine star_keys (same_upd nE) nE upd_same d7 nA (by omega) kn1 (Nat.zero_le _) (show 6 < 7 by decide) rfl (fun _ => rfl) (fun o R r => ⟨.ref p, rfl, p, C, dx, _, .ref D, rfl, ?_, T.cl, T.no _ (by decide +kernel), lookup_zip (ns := ["_arrays", "_positions", "_amounts", "_lengths", "_length_of"]) (vs := [.ref a, .ref b2, .ref b3, .ref t, .ref D]) (i := 4) (by decide +kernel) rfl, r⟩) fun H8 w8 e8 => ?_
        · rw [upd_ne nDp.symm, upd_ne (ne_of_none m7.own nE)]
          exact m7.own
        refine star_tup w8 nE e8 t7 nL (by omega) kn2 (by rw [List.nil_append, keysK_len, List.length_map]; omega) (show 6 < 7 by decide) rfl (fun _ => rfl) (fun R r => ⟨.ref p, rfl, p, C, dx, _, .ref t, rfl, w8 _ _ m7.own, T.cl, T.no _ (by decide +kernel), lookup_zip (ns := ["_arrays", "_positions", "_amounts", "_lengths", "_length_of"]) (vs := [.ref a, .ref b2, .ref b3, .ref t, .ref D]) (i := 3) (by decide +kernel) rfl, r⟩) fun H9 w9 e9 => ?_
        refine star_tup w9 nE e9 eb2 nQ (by omega) kn3 (by rw [List.nil_append, List.length_append, keysK_len, keysK_len, List.length_map]; omega) (show 6 < 7 by decide) rfl (fun _ => rfl) (fun R r => ⟨.ref b2, rfl, r⟩) fun H10 w10 e10 => ?_
        refine star_tup w10 nE e10 eb3 nV (by omega) kn (by rw [List.nil_append, List.length_append, List.length_append, keysK_len, keysK_len, keysK_len, List.length_map]; omega) (show 6 < 7 by decide) rfl (fun _ => rfl) (fun R r => ⟨.ref b3, rfl, r⟩) fun H11 w11 e11 => ?_
        have m11 := m7.same w11
        have f6 : putF "_kinds" (.ref E) ((["_arrays", "_positions", "_amounts", "_lengths", "_length_of"] : List Str).zip [.ref a, .ref b2, .ref b3, .ref t, .ref D]) = frN.zip [.ref a, .ref b2, .ref b3, .ref t, .ref D, .ref E] := putF_zip (by decide +kernel) rfl
        refine ⟨.ref p, rfl, p, C, dx, _, rfl, m11.own, T.cl, T.no _ (by decide +kernel), (by show 5 < 1000; decide), ?_⟩
        rw [f6]
        have m12 := m11.put (F' := frN.zip [.ref a, .ref b2, .ref b3, .ref t, .ref D, .ref E])
        have nEp : E ≠ p := (ne_of_none m7.own nE).symm
        refine good _ (fun b o z n => m12.off b o z n) ⟨⟨dx, t, D, E, upd_same, ?_, ?_, ?_⟩, ?_, ?_, ?_⟩
        · rw [upd_ne np]; exact w11 _ _ t7
        · rw [upd_ne nDp]; exact w11 _ _ d7
        · rw [upd_ne nEp]; exact e11
        · exact Shw.keep (m12.keep hp1) y1
        · exact y2.keep (m12.keep hp1)
        · exact y3.keep (m12.keep hp1)
end
end K02

set_option autoImplicit false
set_option maxRecDepth 100000
set_option maxHeartbeats 4000000
namespace K02
open PySem PySem.Spec PyProof.Rows L2 KX
/-- a statement that is never come to -/
theorem ps_never {X : Cx} {st : Stmt} : PS X st (fun _ _ _ => False) := ⟨fun _ _ _ _ _ _ h => h.elim⟩
def isStrD : PyData → Bool
  | .str _ => true
  | _ => false
theorem kit_strD (d : PyData) : kitB (tyD d) "str" = some (isStrD d) := by
  have a : (["NoneType", "bool", "int", "tuple", "list", "dict"].all fun t => kitB t "str" == some false) = true := by decide +kernel
  have b := fun t h => beq_iff_eq.mp (List.all_eq_true.mp a t h)
  cases d with
  | tuple ds => exact b "tuple" (by simp)
  | none => exact b "NoneType" (by simp)
  | bool _ => exact b "bool" (by simp)
  | int _ => exact b "int" (by simp)
  | str _ => show kitB "str" "str" = some true; decide +kernel
  | list _ => exact b "list" (by simp)
  | dict _ => exact b "dict" (by simp)
def hasW (ws : List Str) : PyData → Bool
  | .str z => decide (z ∈ ws)
  | _ => false
theorem kinds_some (ps : List (Str × Str)) (qs rs : List Str) (z : Str) : (valV (kindsOf ps qs rs) (.inr z)).isSome = decide (z ∈ wordsOf ps qs rs) := by
  have e : ((.inr z : Key) ∈ (kindsOf ps qs rs).map (·.1)) ↔ z ∈ wordsOf ps qs rs := by
    rw [kinds_keys]
    refine ⟨fun h => ?_, fun h => List.mem_map.mpr ⟨z, h, rfl⟩⟩
    obtain ⟨y, h1, h2⟩ := List.mem_map.mp h
    exact Sum.inr.inj h2 ▸ h1
  cases q : valV (kindsOf ps qs rs) (.inr z) with
  | none => exact (decide_eq_false fun m => valV_not q (e.mpr m)).symm
  | some v => exact (decide_eq_true (e.mp (valV_in q))).symm
theorem FnOk.r {P : Program} {w : World} {K : PySem.W.Frag} {mg : Str → Option Value} {base : Heap} {CX : CXT} {k : Nat} {f : Addr} {fd : FuncData} {ps : List Str} {sp : Sp} (F : FnOk P w K mg base CX k f fd ps sp) (hb : Binds K fd ps []) : FnR P w K mg base CX k f sp :=
  (F.raw hb .nil).imp fun vs H Q E h => by rw [List.append_nil]; exact h
/-- a method of the class, with its promise -/
structure OM (P : Program) (w : World) (K : PySem.W.Frag) (mg : Str → Option Value) (base : Heap) (CX : CXT) (k : Nat) (C : Addr) (m : Str) (ps : List Str) (sp : Sp) : Prop where
  ex : ∃ (g : Addr) (fd : FuncData), OwnDef K C m g ∧ PySem.W.keepIn K (.ref g) = true ∧ FnOk P w K mg base CX k g fd ps sp ∧ Binds K fd ps []
section
variable {X : Cx} {CX : CXT} {C : Addr} {k j : Nat} {sp : Sp} {ps : List Str} {E : XK}
theorem OM.isIn (O : OM X.prog X.w X.K X.mg X.base CX k C "__contains__" ps sp) (hr : Room j X.A) (hk : k ≤ j) (hx : Passes CX X E) : OpR X (compareOp .In) (rInOwn C sp E false) := by
  obtain ⟨g, fd, D, _, F, hb⟩ := O.ex
  exact op_inOwn D (FnOk.r F hb) (hr.mono hk) hx
theorem OM.notIn (O : OM X.prog X.w X.K X.mg X.base CX k C "__contains__" ps sp) (hr : Room j X.A) (hk : k ≤ j) (hx : Passes CX X E) : OpR X (compareOp .NotIn) (rInOwn C sp E true) := by
  obtain ⟨g, fd, D, _, F, hb⟩ := O.ex
  exact op_niOwn D (FnOk.r F hb) (hr.mono hk) hx
theorem OM.len (O : OM X.prog X.w X.K X.mg X.base CX k C "__len__" ps sp) (hr : Room j X.A) (hk : k + 1 ≤ j) (hx : Passes CX X E) : CallR X (.builtin "len") (rLenOwn C sp E) := by
  obtain ⟨g, fd, D, _, F, hb⟩ := O.ex
  exact call_lenOwn D (FnOk.r F hb) (hr.mono hk) hx
theorem OM.str (O : OM X.prog X.w X.K X.mg X.base CX k C "__str__" ps sp) (hr : Room j X.A) (hk : k + 2 ≤ j) (hx : Passes CX X E) : CallR X (.type "str") (rStrOwn C sp E) := by
  obtain ⟨g, fd, D, _, F, hb⟩ := O.ex
  exact call_strOwn D (FnOk.r F hb) (hr.mono hk) hx
end
section
variable {P : Program} {w : World} {K : PySem.W.Frag} {mg : Str → Option Value} {base : Heap}
abbrev sIn : Stmt := inClass (topS 30) 15
abbrev sLen : Stmt := inClass (topS 30) 16
theorem scIn : FnScope ["self", "value"] ["self", "value"] (defScope sIn) := ⟨rfl, rfl, rfl, by decide +kernel, rfl, by decide +kernel, by decide +kernel⟩
theorem scLen : FnScope ["self"] ["self"] (defScope sLen) := ⟨rfl, rfl, rfl, by decide +kernel, rfl, by decide +kernel, by decide +kernel⟩
def spIn (C : Addr) : Sp := fun vs H Q _ => ∃ (p : Addr) (v1 v2 v3 : V) (ps : List (Str × Str)) (qs rs : List Str) (v : V) (d : PyData), vs = [.ref p, v] ∧ FrameAt C H p v1 v2 v3 ps qs rs ∧ Shw H v d ∧ Q (.bl (hasW (wordsOf ps qs rs) d)) H
def spLen (C : Addr) : Sp := fun vs H Q _ => ∃ (p : Addr) (v1 v2 v3 : V) (ps : List (Str × Str)) (qs rs : List Str), vs = [.ref p] ∧ FrameAt C H p v1 v2 v3 ps qs rs ∧ Q (.int (wordsOf ps qs rs).length) H
theorem ok_in {f C : Addr} {fd : FuncData} (F : Fun K "__contains__" "Frame.__contains__" sIn f fd) (T : FrTxt K mg C) (B : Free mg) : FnOk P w K mg base CX0 1 f fd ["self", "value"] (spIn C) := by
  refine F.ok scIn (fun vs H Q E h => ?_) (fun cdv A outer s H vs Q E hr h => ?_)
  · obtain ⟨p, v1, v2, v3, ps, qs, rs, v, d, rfl, _⟩ := h
    rfl
  · obtain ⟨p, v1, v2, v3, ps, qs, rs, v, d, rfl, Fr, sh, q⟩ := h
    have hu := hu_of hr
    refine ⟨_, pss_one (ps_ret (pe_and (pe_callB call_isi (by rfl) B.isinstance (by decide +kernel) (pa_cons (pv 1) (pa_cons (pe_bltn (v := .ty "str") (by rfl) B.str (by decide +kernel) rfl) pa_nil)))
      (pe_one (pe_cmp (pc_din hu (pv 1) (pe_fld (pv 0) rfl)))))), ?_⟩
    refine ⟨v, rfl, v, .ty "str", _, _, isStrD d, rfl, .ty _, shw_ty sh, kit_ty (kit_strD d), isStrD d, rfl, ?_⟩
    obtain ⟨dx, t, d2, e, ob, _, _, hk⟩ := Fr.ob
    cases sh with
    | str z =>
      refine ⟨_, rfl, _, rfl, p, C, dx, _, .ref e, rfl, ob, T.cl, T.no _ (by decide +kernel), lookup_zip (i := 5) (by decide +kernel) rfl, e, _, rfl, DGet.k (k := Sum.inr z) hk, ?_⟩
      rw [kinds_some]
      exact q
    | non => exact q
    | bl b => exact q
    | int i => exact q
    | lst _ _ => exact q
    | tup _ _ => exact q
    | dct _ => exact q
theorem kinds_len (ps : List (Str × Str)) (qs rs : List Str) : (kindsOf ps qs rs).length = (wordsOf ps qs rs).length := by
  have e := congrArg List.length (kinds_keys ps qs rs)
  rw [List.length_map, List.length_map] at e
  exact e
theorem ok_len {f C : Addr} {fd : FuncData} (F : Fun K "__len__" "Frame.__len__" sLen f fd) (T : FrTxt K mg C) (B : Free mg) : FnOk P w K mg base CX0 1 f fd ["self"] (spLen C) := by
  refine F.ok scLen (fun vs H Q E h => ?_) (fun cdv A outer s H vs Q E hr h => ?_)
  · obtain ⟨p, v1, v2, v3, ps, qs, rs, rfl, _⟩ := h
    rfl
  · obtain ⟨p, v1, v2, v3, ps, qs, rs, rfl, Fr, q⟩ := h
    refine ⟨_, pss_one (ps_ret (pe_callB call_lenD (by rfl) B.len PySem.boot_len (pa_cons (pe_fld (pv 0) rfl) pa_nil))), ?_⟩
    obtain ⟨dx, t, d2, e, ob, _, _, hk⟩ := Fr.ob
    refine ⟨_, rfl, p, C, dx, _, .ref e, rfl, ob, T.cl, T.no _ (by decide +kernel), lookup_zip (i := 5) (by decide +kernel) rfl, e, _, rfl, hk, ?_⟩
    rw [kinds_len]
    exact q
abbrev sFresh : Stmt := inClass (topS 30) 8
theorem scFresh : FnScope ["self", "value"] ["self", "value"] (defScope sFresh) := ⟨rfl, rfl, rfl, by decide +kernel, rfl, by decide +kernel, by decide +kernel⟩
def spFresh (C : Addr) : Sp := fun vs H Q _ => ∃ (p : Addr) (v1 v2 v3 : V) (ps : List (Str × Str)) (qs rs : List Str) (v : V) (d : PyData), vs = [.ref p, v] ∧ FrameAt C H p v1 v2 v3 ps qs rs ∧ Shw H v d ∧ gd d = true ∧ ∀ H', Same H H' → Q (.bl (isNm d && !hasW (wordsOf ps qs rs) d)) H'
theorem FrameAt.same {C p : Addr} {H H' : Hp} {v1 v2 v3 : V} {ps : List (Str × Str)} {qs rs : List Str} (f : FrameAt C H p v1 v2 v3 ps qs rs) (s : Same H H') : FrameAt C H' p v1 v2 v3 ps qs rs := by
  obtain ⟨⟨dx, t, d, e, h1, h2, h3, h4⟩, h5, h6, h7⟩ := f
  exact ⟨⟨dx, t, d, e, s _ _ h1, s _ _ h2, s _ _ h3, s _ _ h4⟩, Shw.same h5 s, h6.same s, h7.same s⟩
theorem ok_fresh {f C : Addr} {fd : FuncData} (F : Fun K "is_fresh" "Frame.is_fresh" sFresh f fd) (N : Fnc P w K mg base CX0 1 "is_name" ["value"] (spName K)) (O : OM P w K mg base CX0 1 C "__contains__" ["self", "value"] (spIn C)) : FnOk P w K mg base CX0 2 f fd ["self", "value"] (spFresh C) := by
  refine F.ok scFresh (fun vs H Q E h => ?_) (fun cdv A outer s H vs Q E hr h => ?_)
  · obtain ⟨p, v1, v2, v3, ps, qs, rs, v, d, rfl, _⟩ := h
    rfl
  · obtain ⟨p, v1, v2, v3, ps, qs, rs, v, d, rfl, Fr, sh, g, q⟩ := h
    refine ⟨_, pss_one (ps_ret (pe_and (pe_fnc N hr (by omega) (by rfl) pass0 (pa_cons (pv 1) pa_nil)) (pe_one (pe_cmpR (O.notIn hr (by omega) pass0) (pv 1) (pv 0) (by with_unfolding_all rfl))))), ?_⟩
    refine ⟨v, rfl, v, isNm d, rfl, shw_name sh g, fun H1 w1 => ⟨isNm d, rfl, ?_⟩⟩
    cases e : isNm d with
    | false =>
      have z := q H1 w1
      rw [e] at z
      exact z
    | true =>
      have Fr1 := Fr.same w1
      obtain ⟨dx, t, d2, e2, ob, _⟩ := Fr1.ob
      have z := q H1 w1
      rw [e] at z
      exact ⟨_, rfl, _, rfl, p, dx, _, rfl, ob, p, v1, v2, v3, ps, qs, rs, v, d, rfl, Fr1, Shw.same sh w1, ⟨_, rfl, by rw [Bool.true_xor]; exact z⟩⟩
end
end K02

set_option autoImplicit false
set_option maxRecDepth 100000
set_option maxHeartbeats 4000000
namespace K02
open PySem PySem.Spec PyProof.Rows L2 KX
theorem lookup_zip_none {f : Str} : ∀ {ns : List Str} {vs : List V}, ns.all (fun k => !(f == k)) = true → (ns.zip vs).lookup f = none
  | [], _, _ => rfl
  | n :: ns, [], _ => rfl
  | n :: ns, v :: vs, h => by
    rw [List.all_cons, Bool.and_eq_true] at h
    rw [List.zip_cons_cons, List.lookup_cons]
    have e : (f == n) = false := by
      cases q : f == n with
      | false => rfl
      | true => rw [q] at h; cases h.1
    rw [e]
    exact lookup_zip_none h.2
section
variable {X : Cx} {CX : CXT} {k j : Nat} {C : Addr} {m : Str} {sp : Sp} {ps : List Str} {E : XK} {o e : Expr} {es : List Expr} {ta : TE} {t : TA} {apos pos : Pos}
/-- o.m(..), a method of the class -/
theorem pe_om {pl : Sem Bool} (O : OM X.prog X.w X.K X.mg X.base CX k C m ps sp) (c : Cls X.K C) (hr : Room j X.A) (hk : k ≤ j) (hx : Passes CX X E) (he : PE X o ta) (ha : PA X (e :: es) t)
    (hst : starEach (e :: es) X.env = (false, eval e X.env) :: starEach es X.env := by rfl) (hpl : (backTo pos (starEach es X.env)).any (·.1) = false := by rfl)
    (ht : eval (.Call (.Attribute o m apos) (e :: es) [] pos) X.env = (do
      let ov ← eval o X.env
      standAt apos.atName
      let (f, first) ← holding [ov] (getMethod ov m pl)
      callWith pos f first (backTo pos (starEach (e :: es) X.env)) (backToKw pos (keywordEach [] X.env))) := by rfl) : PE X (.Call (.Attribute o m apos) (e :: es) [] pos) (tMeth C m sp [] E ta t) := by
  obtain ⟨g, fd, D, hkp, F, hb⟩ := O.ex
  exact pe_meth he c ⟨D.at_, D.fn, hkp⟩ F (hr.mono hk) hb .nil hx ha hst hpl ht
end
section
variable {P : Program} {w : World} {K : PySem.W.Frag} {mg : Str → Option Value} {base : Heap}
end
end K02

set_option autoImplicit false
set_option maxRecDepth 100000
set_option maxHeartbeats 4000000
namespace K02
open PySem PySem.Spec PyProof.Rows L2 KX
abbrev sWT : Stmt := topS 28
abbrev sAT : Stmt := topS 29
theorem scWT : FnScope ["words"] ["words"] (defScope sWT) := ⟨rfl, rfl, rfl, by decide +kernel, rfl, by decide +kernel, by decide +kernel⟩
theorem scAT : FnScope ["arrays", "array", "length"] ["arrays"] (defScope sAT) := ⟨rfl, rfl, rfl, by decide +kernel, rfl, by decide +kernel, by decide +kernel⟩
def wt : List Str → Str
  | [] => "-"
  | zs => Txt.join " " zs
def pairT (p : Str × Str) : Str := p.1 ++ ":" ++ p.2
def short (n : Nat) (zs : List Str) : Prop := ∀ z ∈ zs, z.length ≤ n
theorem short_sum {n : Nat} : ∀ {zs : List Str}, short n zs → (zs.map (·.length)).sum ≤ zs.length * n
  | [], _ => Nat.zero_le _
  | z :: zs, h => by
    have a := h z List.mem_cons_self
    have b := short_sum fun y hy => h y (List.mem_cons_of_mem _ hy)
    rw [List.map_cons, List.sum_cons, List.length_cons, Nat.succ_mul]
    omega
def spWT (K : PySem.W.Frag) : Sp := fun vs H Q _ => ∃ (p : Addr) (zs : List Str), vs = [.ref p] ∧ (SqL K H p (zs.map V.str) ∨ SqT K H p (zs.map V.str)) ∧ zs.length ≤ 100 ∧ short 100 zs ∧ Q (.str (wt zs)) H
def spAT : Sp := fun vs H Q _ => ∃ (v : V) (ps : List (Str × Str)), vs = [v] ∧ Arr H v ps ∧ ps.length ≤ 100 ∧ short 40 (ps.map (·.1)) ∧ short 40 (ps.map (·.2)) ∧ ∀ H', Same H H' → Q (.str (wt (ps.map pairT))) H'
section
variable {P : Program} {w : World} {K : PySem.W.Frag} {mg : Str → Option Value} {base : Heap}
theorem ok_wt {f : Addr} {fd : FuncData} (F : Fun K "words_text" "words_text" sWT f fd) (B : Free mg) : FnOk P w K mg base CX0 1 f fd ["words"] (spWT K) := by
  refine F.ok scWT (fun vs H Q E h => ?_) (fun cdv A outer s H vs Q E hr h => ?_)
  · obtain ⟨p, zs, rfl, _⟩ := h
    rfl
  · obtain ⟨p, zs, rfl, hs, few, sh, q⟩ := h
    refine ⟨_, pss_one (ps_ret (pe_ifExp (pt_cmpR op_gt (pe_callB (r := rLen K) call_len_seq (by rfl) B.len PySem.boot_len (pa_cons (pv 0) pa_nil)) pe_int (nomark _)) (pe_join pe_str (pv 0)) pe_str)), ?_⟩
    refine ⟨_, rfl, p, _, rfl, hs, _, _, rfl, rfl, _, rfl, ?_⟩
    rw [List.length_map]
    cases zs with
    | nil => exact q
    | cons z zs =>
      rw [if_pos (decide_eq_true (by show (0 : Int) < ((z :: zs).length : Nat); rw [List.length_cons]; omega))]
      refine ⟨⟨_, rfl⟩, _, rfl, _, p, z :: zs, rfl, rfl, hs, ?_, q⟩
      have a := short_sum sh
      have b : (" " : Str).length = 1 := by decide +kernel
      rw [b]
      omega
abbrev nAT : List Str := ["arrays", "array", "length"]
theorem str_three (a b : Str) : ((Str.empty ++ a) ++ ":") ++ b = pairT (a, b) := by
  rw [Str.empty_append]
  rfl
theorem pairT_len {p : Str × Str} {n m : Nat} (h1 : p.1.length ≤ n) (h2 : p.2.length ≤ m) : (pairT p).length ≤ n + m + 1 := by
  unfold pairT
  rw [Str.length_append, Str.length_append]
  have b : (":" : Str).length = 1 := by decide +kernel
  omega
theorem ok_at {f : Addr} {fd : FuncData} (F : Fun K "arrays_text" "arrays_text" sAT f fd) (W : Fnc P w K mg base CX0 1 "words_text" ["words"] (spWT K)) : FnOk P w K mg base CX0 2 f fd ["arrays"] spAT := by
  refine F.ok scAT (fun vs H Q E h => ?_) (fun cdv A outer s H vs Q E hr h => ?_)
  · obtain ⟨v, ps, rfl, _⟩ := h
    rfl
  · obtain ⟨v, ps, rfl, sh, few, k1, k2, q⟩ := h
    refine ⟨_, pss_one (ps_ret (pe_fnc W hr (by omega) (by rfl) pass0 (pa_cons (pe_lc (own := [("array", 1), ("length", 2)]) (g := gTup K 2 (gCons (gName 1) (gCons (gName 2) gNil))) (tt := tYes) rfl scAT.nd (pi_tup (pv 0)) (blkOk_by (N := nAT) (sc := defScope sAT) (by decide +kernel))
        (fun _ _ _ _ _ => pg_tup rfl (pgs_cons (pg_name (i := 1) scAT.nd rfl (Or.inl rfl) (Or.inr rfl)) (pgs_cons (pg_name (i := 2) scAT.nd rfl (Or.inl rfl) (Or.inr rfl)) pgs_nil))) (fun _ _ _ _ _ => pts_nil)
        (fun _ _ _ _ _ => pe_joined (PJ.cons (pe_fmt (pv 1)) (PJ.cons pe_str (PJ.cons (pe_fmt (pv 2)) PJ.nil))))) pa_nil))), ?_⟩
    obtain ⟨a, xs, rfl, e, ln, at_⟩ := arr_get sh
    refine ⟨.ref a, rfl, a, rfl, ⟨_, SqT.of e⟩, fun D nD => ?_⟩
    refine lc_tup (K := K) (a := a) (xs := xs) (g := gTup K 2 (gCons (gName 1) (gCons (gName 2) gNil))) (tt := tYes) (te := fun σ H Q => tJs [tFmt (tVar 1), tC (.str ":"), tFmt (tVar 2)] Str.empty σ H fun out H1 => Q (.str out) H1) (fun m H' => Same H H' ∧ H' D = some (.lst ((ps.take m).map fun p => V.str (pairT p)))) ⟨same_upd nD, upd_same⟩ (fun m H' _ hP => SqT.of (hP.1 _ _ e)) (fun m x H' hm hP => ?_) (fun H' hP => ?_)
    · obtain ⟨s1, d1⟩ := hP
      obtain ⟨p, b, hp, rfl, eb⟩ := at_ m x hm
      have l1 := k1 p.1 (List.mem_map.mpr ⟨p, List.mem_of_getElem? hp, rfl⟩)
      have l2 := k2 p.2 (List.mem_map.mpr ⟨p, List.mem_of_getElem? hp, rfl⟩)
      have c1 : (":" : Str).length = 1 := by decide +kernel
      refine ⟨b, _, rfl, SqT.of (s1 _ _ eb), rfl, _, _, rfl, _, _, rfl, rfl, rfl, ?_⟩
      refine ⟨_, rfl, .inl ⟨p.1, rfl, by rw [sizeLine_eq]; omega, p.1, rfl, by rw [sizeLine_eq, Str.empty_append]; omega, _, rfl, by rw [sizeLine_eq, Str.empty_append, Str.length_append]; omega, _, rfl, .inl ⟨p.2, rfl, by rw [sizeLine_eq]; omega, p.2, rfl, by rw [sizeLine_eq, Str.empty_append, Str.length_append, Str.length_append]; omega, ?_⟩⟩⟩
      rw [str_three]
      refine ⟨_, d1, ?_, fun c o z => ?_, ?_⟩
      · rw [List.length_map, List.length_take, sizeLine_eq]
        omega
      · rw [upd_ne (ne_of_none z nD)]
        exact s1 _ _ z
      · rw [upd_same, List.take_add_one, hp, List.map_append]
        rfl
    · obtain ⟨s1, d1⟩ := hP
      rw [ln, List.take_length] at d1
      refine ⟨D, ps.map pairT, rfl, .inl (SqL.of (by rw [List.map_map]; exact d1)), by rw [List.length_map]; exact few, fun z hz => ?_, q _ s1⟩
      obtain ⟨p, hp, rfl⟩ := List.mem_map.mp hz
      have l1 := k1 p.1 (List.mem_map.mpr ⟨p, hp, rfl⟩)
      have l2 := k2 p.2 (List.mem_map.mpr ⟨p, hp, rfl⟩)
      have := pairT_len l1 l2
      omega
end
end K02

set_option autoImplicit false
set_option maxRecDepth 100000
set_option maxHeartbeats 4000000
namespace K02
open PySem PySem.Spec PyProof.Rows L2 KX
theorem wt_len {n m : Nat} {zs : List Str} (h : zs.length ≤ n) (s : short m zs) : (wt zs).length ≤ n * m + n + 1 := by
  cases zs with
  | nil =>
    have : (wt []).length = 1 := by decide +kernel
    omega
  | cons z zs =>
    show (Txt.join " " (z :: zs)).length ≤ _
    rw [TL.join_eq]
    have a := StrLaws.join_length_le " " (z :: zs)
    have b : (" " : Str).length = 1 := by decide +kernel
    have c := short_sum s
    have d : (z :: zs).length * m ≤ n * m := Nat.mul_le_mul_right m h
    rw [b] at a
    omega
def frT (ps : List (Str × Str)) (qs rs : List Str) : Str := wt (ps.map pairT) ++ " | " ++ wt qs ++ " | " ++ wt rs
abbrev sStr : Stmt := inClass (topS 30) 18
theorem scStr : FnScope ["self"] ["self"] (defScope sStr) := ⟨rfl, rfl, rfl, by decide +kernel, rfl, by decide +kernel, by decide +kernel⟩
def spStr (C : Addr) : Sp := fun vs H Q _ => ∃ (p : Addr) (v1 v2 v3 : V) (ps : List (Str × Str)) (qs rs : List Str), vs = [.ref p] ∧ FrameAt C H p v1 v2 v3 ps qs rs ∧ ps.length ≤ 12 ∧ qs.length ≤ 12 ∧ rs.length ≤ 12 ∧ short 8 (ps.map (·.1)) ∧ short 8 (ps.map (·.2)) ∧ short 8 qs ∧ short 8 rs ∧ ∀ H', Same H H' → Q (.str (frT ps qs rs)) H'
section
variable {P : Program} {w : World} {K : PySem.W.Frag} {mg : Str → Option Value} {base : Heap}
theorem ok_str {f C : Addr} {fd : FuncData} (F : Fun K "__str__" "Frame.__str__" sStr f fd) (T : FrTxt K mg C) (A3 : Fnc P w K mg base CX0 2 "arrays_text" ["arrays"] spAT) (W : Fnc P w K mg base CX0 1 "words_text" ["words"] (spWT K)) : FnOk P w K mg base CX0 3 f fd ["self"] (spStr C) := by
  refine F.ok scStr (fun vs H Q E h => ?_) (fun cdv A outer s H vs Q E hr h => ?_)
  · obtain ⟨p, v1, v2, v3, ps, qs, rs, rfl, _⟩ := h
    rfl
  · obtain ⟨p, v1, v2, v3, ps, qs, rs, rfl, Fr, l1, l2, l3, k1, k1', k2, k3, q⟩ := h
    refine ⟨_, pss_one (ps_ret (pe_joined (PJ.cons (pe_fmt (pe_fnc A3 hr (by omega) (by rfl) pass0 (pa_cons (pe_fld (pv 0) rfl) pa_nil)))
      (PJ.cons pe_str (PJ.cons (pe_fmt (pe_fnc W hr (by omega) (by rfl) pass0 (pa_cons (pe_fld (pv 0) rfl) pa_nil)))
      (PJ.cons pe_str (PJ.cons (pe_fmt (pe_fnc W hr (by omega) (by rfl) pass0 (pa_cons (pe_fld (pv 0) rfl) pa_nil))) PJ.nil))))))), ?_⟩
    obtain ⟨dx, t, d2, e, ob, _, _, _⟩ := id Fr.ob
    have m40 : ∀ {zs : List Str} {n : Nat}, short 8 zs → 8 ≤ n → short n zs := fun h l z hz => Nat.le_trans (h z hz) l
    have b1 := wt_len (m := 17) (n := 12) (zs := ps.map pairT) (by rw [List.length_map]; exact l1) (fun z hz => by
      obtain ⟨y, hy, rfl⟩ := List.mem_map.mp hz
      exact pairT_len (k1 _ (List.mem_map.mpr ⟨y, hy, rfl⟩)) (k1' _ (List.mem_map.mpr ⟨y, hy, rfl⟩)))
    have b2 := wt_len l2 k2
    have b3 := wt_len l3 k3
    have c1 : (" | " : Str).length = 3 := by decide +kernel
    refine ⟨_, rfl, p, C, dx, _, v1, rfl, ob, T.cl, T.no _ (by decide +kernel), lookup_zip (i := 0) (by decide +kernel) rfl, v1, ps, rfl, Fr.ar, by omega, m40 k1 (by omega), m40 k1' (by omega), fun H1 w1 => ?_⟩
    have Fr1 := Fr.same w1
    obtain ⟨a2, rfl, e2⟩ := Fr1.po
    obtain ⟨a3, rfl, e3⟩ := Fr1.va
    refine .inl ⟨_, rfl, by rw [sizeLine_eq]; omega, _, rfl, by rw [sizeLine_eq, Str.empty_append]; omega, _, rfl, by rw [sizeLine_eq, Str.empty_append, Str.length_append]; omega, ?_⟩
    refine ⟨_, rfl, p, C, dx, _, .ref a2, rfl, w1 _ _ ob, T.cl, T.no _ (by decide +kernel), lookup_zip (i := 1) (by decide +kernel) rfl, a2, qs, rfl, .inr (SqT.of e2), by omega, m40 k2 (by omega), ?_⟩
    refine .inl ⟨_, rfl, by rw [sizeLine_eq]; omega, _, rfl, by rw [sizeLine_eq, Str.empty_append, Str.length_append, Str.length_append]; omega, _, rfl, by rw [sizeLine_eq, Str.empty_append, Str.length_append, Str.length_append, Str.length_append]; omega, ?_⟩
    refine ⟨_, rfl, p, C, dx, _, .ref a3, rfl, w1 _ _ ob, T.cl, T.no _ (by decide +kernel), lookup_zip (i := 2) (by decide +kernel) rfl, a3, rs, rfl, .inr (SqT.of e3), by omega, m40 k3 (by omega), ?_⟩
    refine .inl ⟨_, rfl, by rw [sizeLine_eq]; omega, _, rfl, by rw [sizeLine_eq, Str.empty_append, Str.length_append, Str.length_append, Str.length_append, Str.length_append]; omega, ?_⟩
    have z := q H1 w1
    unfold frT at z
    rw [Str.empty_append]
    exact z
end
end K02

set_option autoImplicit false
set_option maxRecDepth 100000
set_option maxHeartbeats 4000000
namespace K02
open PySem PySem.Spec PyProof.Rows L2 KX
section
variable {K : PySem.W.Frag} {H : Hp}
mutual
theorem Shw.dp : ∀ {v : V} {d : PyData}, PyData.canLay0 d = true → Shw H v d → Dp K H v d
  | _, _, _, .non => .non
  | _, _, _, .bl b => .bl b
  | _, _, _, .int i => .int i
  | _, _, _, .str x => .str x
  | _, _, n, .lst h r => .lst (SqL.of h) (ShwAll.dp (by simpa only [PyData.canLay0] using n) r)
  | _, _, n, .tup h r => .tup (SqT.of h) (ShwAll.dp (by simpa only [PyData.canLay0] using n) r)
  | _, _, n, .dct h => by simp [PyData.canLay0] at n
theorem ShwAll.dp : ∀ {vs : List V} {ds : List PyData}, PyData.canLayAll0 ds = true → ShwAll H vs ds → DpAll K H vs ds
  | _, _, _, .nil => .nil
  | _, _, n, .cons a r => by
    simp only [PyData.canLayAll0, Bool.and_eq_true] at n
    exact .cons (Shw.dp n.1 a) (ShwAll.dp n.2 r)
end
end
def frD (ps : List (Str × Str)) (qs rs : List Str) : PyData := .tuple [.tuple (ps.map prD), .tuple (qs.map PyData.str), .tuple (rs.map PyData.str)]
def okS (zs : List Str) : Prop := ∀ z ∈ zs, PyData.strOk z = true
theorem strs_lay : ∀ {zs : List Str}, okS zs → PyData.canLayAll0 (zs.map PyData.str) = true
  | [], _ => rfl
  | z :: zs, h => by simp only [List.map_cons, PyData.canLayAll0, PyData.canLay0, h z List.mem_cons_self, strs_lay fun y hy => h y (List.mem_cons_of_mem _ hy), Bool.and_self]
theorem prs_lay : ∀ {ps : List (Str × Str)}, okS (ps.map (·.1)) → okS (ps.map (·.2)) → PyData.canLayAll0 (ps.map prD) = true
  | [], _, _ => rfl
  | p :: ps, h1, h2 => by
    have a := h1 p.1 (by rw [List.map_cons]; exact List.mem_cons_self)
    have b := h2 p.2 (by rw [List.map_cons]; exact List.mem_cons_self)
    simp only [List.map_cons, PyData.canLayAll0, PyData.canLay0, prD, a, b, prs_lay (fun y hy => h1 y (by rw [List.map_cons]; exact List.mem_cons_of_mem _ hy)) (fun y hy => h2 y (by rw [List.map_cons]; exact List.mem_cons_of_mem _ hy)), Bool.and_self]
theorem strs_depth : ∀ zs : List Str, PyData.depthAll (zs.map PyData.str) = 0
  | [] => rfl
  | z :: zs => by simp only [List.map_cons, PyData.depthAll, PyData.depth, strs_depth zs, Nat.max_self]
theorem prs_depth : ∀ ps : List (Str × Str), PyData.depthAll (ps.map prD) ≤ 1
  | [] => by simp [PyData.depthAll]
  | p :: ps => by
    have := prs_depth ps
    simp only [List.map_cons, PyData.depthAll, PyData.depth, prD]
    omega
theorem fr_shaped {ps : List (Str × Str)} {qs rs : List Str} (h1 : okS (ps.map (·.1))) (h2 : okS (ps.map (·.2))) (h3 : okS qs) (h4 : okS rs) : SeqAt.shaped (frD ps qs rs) = true := by
  have d : PyData.depth (frD ps qs rs) ≤ 64 := by
    have := prs_depth ps
    simp only [frD, PyData.depth, PyData.depthAll, strs_depth]
    omega
  have c : PyData.canLay0 (frD ps qs rs) = true := by
    simp only [frD, PyData.canLay0, PyData.canLayAll0, strs_lay h3, strs_lay h4, prs_lay h1 h2, Bool.and_self]
  unfold SeqAt.shaped
  rw [c, decide_eq_true d]
  rfl
end K02

set_option autoImplicit false
set_option maxRecDepth 100000
set_option maxHeartbeats 4000000
namespace K02
open PySem PySem.Spec PyProof.Rows L2 KX
/-- what isinstance asks of class Frame -/
structure FrIs (K : PySem.W.Frag) (mg : Str → Option Value) (C : Addr) : Prop where
  gF : mg "Frame" = some (.ref C)
  ha : PySem.W.findIn K (.ref C) "__class__" = some (some (.builtin "object.__class__"))
  hn : PySem.W.specialIn K (.builtin "object.__class__") "__get__" = some (some (.builtin "getset_descriptor.__get__"))
  ht : PySem.W.takesIn K (.builtin "object.__class__") = some true
  hm : PySem.W.mroIn K C (.type "object") = some true
  kT : PySem.W.kitOne K (.ref C) (.ref C) = some true
  kL : PySem.W.kitOne K (.type "list") (.ref C) = some false
abbrev sEq : Stmt := inClass (topS 30) 17
theorem scEq : FnScope ["self", "other"] ["self", "other"] (defScope sEq) := ⟨rfl, rfl, rfl, by decide +kernel, rfl, by decide +kernel, by decide +kernel⟩
def okF (ps : List (Str × Str)) (qs rs : List Str) : Prop := okS (ps.map (·.1)) ∧ okS (ps.map (·.2)) ∧ okS qs ∧ okS rs
def spEq (C : Addr) : Sp := fun vs H Q _ => ∃ (p q : Addr) (v1 v2 v3 : V) (ps : List (Str × Str)) (qs rs : List Str), vs = [.ref p, .ref q] ∧ FrameAt C H p v1 v2 v3 ps qs rs ∧
  ((∃ xs, H q = some (.lst xs) ∧ Q (.bl false) H) ∨
   ∃ (w1 w2 w3 : V) (ps' : List (Str × Str)) (qs' rs' : List Str), FrameAt C H q w1 w2 w3 ps' qs' rs' ∧ okF ps qs rs ∧ okF ps' qs' rs' ∧ ∀ H', Same H H' → Q (.bl (PyData.eqv (frD ps qs rs) (frD ps' qs' rs'))) H')
theorem txts_shw {H : Hp} {v : V} {zs : List Str} (t : Txts H v zs) : Shw H v (.tuple (zs.map PyData.str)) := by
  obtain ⟨a, rfl, e⟩ := t
  refine .tup e ?_
  have : ∀ zs : List Str, ShwAll H (zs.map V.str) (zs.map PyData.str) := fun zs => by
    induction zs with
    | nil => exact .nil
    | cons z zs ih => exact .cons (.str z) ih
  exact this zs
theorem FrameAt.shw {C p a : Addr} {H : Hp} {v1 v2 v3 : V} {ps : List (Str × Str)} {qs rs : List Str} (f : FrameAt C H p v1 v2 v3 ps qs rs) (h : H a = some (.tup [v1, v2, v3])) : Shw H (.ref a) (frD ps qs rs) :=
  .tup h (.cons f.ar (.cons (txts_shw f.po) (.cons (txts_shw f.va) .nil)))
section
variable {P : Program} {w : World} {K : PySem.W.Frag} {mg : Str → Option Value} {base : Heap}
theorem ok_eq {f C : Addr} {fd : FuncData} (F : Fun K "__eq__" "Frame.__eq__" sEq f fd) (T : FrTxt K mg C) (S : FrIs K mg C) (B : Free mg) : FnOk P w K mg base CX0 1 f fd ["self", "other"] (spEq C) := by
  refine F.ok scEq (fun vs H Q E h => ?_) (fun cdv A outer s H vs Q E hr h => ?_)
  · obtain ⟨p, q, v1, v2, v3, ps, qs, rs, rfl, _⟩ := h
    rfl
  · obtain ⟨p, q, v1, v2, v3, ps, qs, rs, rfl, Fr, hq⟩ := h
    refine ⟨_, pss_cons (ps_if (pt_not (pt_val (pe_callB call_isi (by rfl) B.isinstance (by decide +kernel) (pa_cons (pv 1) (pa_cons (pe_glob (v := .ref C) (by rfl) S.gF rfl) pa_nil))))) (pss_one (ps_ret pe_bl)) pss_nil)
      (pss_one (ps_ret (pe_cmpR (op_eqD hr.units) (pe_tup (pa_cons (pe_fld (pv 0) rfl) (pa_cons (pe_fld (pv 0) rfl) (pa_cons (pe_fld (pv 0) rfl) pa_nil))))
        (pe_tup (pa_cons (pe_fld (pv 1) rfl) (pa_cons (pe_fld (pv 1) rfl) (pa_cons (pe_fld (pv 1) rfl) pa_nil)))) (nomark _)))), ?_⟩
    rcases hq with ⟨xs, hl, k⟩ | ⟨w1, w2, w3, ps', qs', rs', Fr', o1, o2, k⟩
    · exact ⟨.ref q, rfl, .ref q, .ref C, _, _, false, rfl, .own C, .base (.lst hl), S.kL, false, rfl, k⟩
    · obtain ⟨dx, t, d2, e, ob, _⟩ := id Fr.ob
      obtain ⟨dx', t', d2', e', ob', _⟩ := id Fr'.ob
      refine ⟨.ref q, rfl, .ref q, .ref C, _, _, true, rfl, .own C, .base (.ins ob' T.cl S.ha S.hn S.ht S.hm), S.kT, true, rfl, ?_⟩
      show if (!true) = true then _ else _
      refine iteF ?_
      refine ⟨.ref p, rfl, p, C, dx, _, v1, rfl, ob, T.cl, T.no _ (by decide +kernel), lookup_zip (i := 0) (by decide +kernel) rfl, .ref p, rfl, p, C, dx, _, v2, rfl, ob, T.cl, T.no _ (by decide +kernel), lookup_zip (i := 1) (by decide +kernel) rfl,
        .ref p, rfl, p, C, dx, _, v3, rfl, ob, T.cl, T.no _ (by decide +kernel), lookup_zip (i := 2) (by decide +kernel) rfl, (by rw [sizeLine_eq]; show 3 ≤ 16777216; decide), fun a na => ?_⟩
      have sa := same_upd (p := a) (o := .tup [v1, v2, v3]) na
      have ob2 := sa _ _ ob'
      refine ⟨.ref q, rfl, q, C, dx', _, w1, rfl, ob2, T.cl, T.no _ (by decide +kernel), lookup_zip (i := 0) (by decide +kernel) rfl, .ref q, rfl, q, C, dx', _, w2, rfl, ob2, T.cl, T.no _ (by decide +kernel), lookup_zip (i := 1) (by decide +kernel) rfl,
        .ref q, rfl, q, C, dx', _, w3, rfl, ob2, T.cl, T.no _ (by decide +kernel), lookup_zip (i := 2) (by decide +kernel) rfl, (by rw [sizeLine_eq]; show 3 ≤ 16777216; decide), fun b nb => ?_⟩
      have sb := same_upd (p := b) (o := .tup [w1, w2, w3]) nb
      have z1 := fr_shaped o1.1 o1.2.1 o1.2.2.1 o1.2.2.2
      have z2 := fr_shaped o2.1 o2.2.1 o2.2.2.1 o2.2.2.2
      have f1 := (Fr.same (sa.trans sb)).shw (a := a) (sb _ _ upd_same)
      have f2 := (Fr'.same (sa.trans sb)).shw (a := b) upd_same
      exact ⟨_, _, Shw.dp (SeqAt.canLay_of_shaped z1) f1, Shw.dp (SeqAt.canLay_of_shaped z2) f2, z1, z2, k _ (sa.trans sb)⟩
end
end K02

set_option autoImplicit false
set_option maxRecDepth 100000
set_option maxHeartbeats 4000000
namespace K02
open PySem PySem.Spec PyProof.Rows L2 KX
abbrev sLens : Stmt := topS 37
abbrev nLens : List Str := ["_law_parts_here", "_law_found", "_law_name", "_law_length"]
theorem scLens : FnScope nLens ["_law_parts_here"] (defScope sLens) := ⟨rfl, rfl, rfl, by decide +kernel, rfl, by decide +kernel, by decide +kernel⟩
def spLens2 : Sp := fun vs H Q _ => ∃ (a : Addr) (v1 v2 v3 : V) (ps : List (Str × Str)), vs = [.ref a] ∧ H a = some (.lst [v1, v2, v3]) ∧ Arr H v1 ps ∧ ps.length ≤ 1000 ∧ ∀ (l : Addr) (H' : Hp), Same H H' → H' l = some (.lst ((lensOf ps).map V.str)) → Q (.ref l) H'
theorem inV_str (z : Str) (zs : List Str) : inV (.str z) (zs.map V.str) = decide (z ∈ zs) := by
  unfold inV
  rw [List.any_map]
  induction zs with
  | nil => rfl
  | cons y zs ih =>
    rw [List.any_cons, ih]
    by_cases e : y = z
    · subst e
      simp [eqV]
    · have e2 : z ≠ y := fun h => e h.symm
      simp [eqV, e, e2]
theorem flat_strs (zs : List Str) : (zs.map V.str).all flatV = true := by
  induction zs with
  | nil => rfl
  | cons z zs ih => rw [List.map_cons, List.all_cons, ih]; rfl
section
variable {P : Program} {w : World} {K : PySem.W.Frag} {mg : Str → Option Value} {base : Heap}
theorem ok_lens2 {f : Addr} {fd : FuncData} (F : Fun K "_law_lengths" "_law_lengths" sLens f fd) : FnOk P w K mg base CX0 1 f fd ["_law_parts_here"] spLens2 := by
  refine F.ok scLens (fun vs H Q E h => ?_) (fun cdv A outer s H vs Q E hr h => ?_)
  · obtain ⟨a, v1, v2, v3, ps, rfl, _⟩ := h
    rfl
  · obtain ⟨a, v1, v2, v3, ps, rfl, ha, sh, few, q⟩ := h
    refine ⟨_, pss_cons (ps_set (i := 1) scLens.nd rfl (.inl rfl) (pe_lst pa_nil))
      (pss_cons (ps_for PassesOwn.never rfl (pi_tup (pe_ix ix_list (pv 0) pe_int (fun _ _ => rfl))) (pg_tup rfl (pgs_cons (pg_name (i := 2) scLens.nd rfl (Or.inl rfl) (Or.inr rfl)) (pgs_cons (pg_name (i := 3) scLens.nd rfl (Or.inl rfl) (Or.inr rfl)) pgs_nil)))
        (pss_one (ps_set (i := 1) scLens.nd rfl (.inl rfl) (pe_op op_cat (pv 1) (pe_ifExp (pt_cmpR op_notIn_seq (pv 3) (pv 1) (by with_unfolding_all rfl)) (pe_lst (pa_cons (pv 3) pa_nil)) (pe_lst pa_nil))))))
      (pss_one (ps_ret (pv 1)))), ?_⟩
    refine ⟨(by rw [sizeLine_eq]; decide), fun l0 n0 => ?_⟩
    have sm0 := same_upd (p := l0) (o := .lst []) n0
    obtain ⟨b, xs, rfl, e, ln, at_⟩ := arr_get (Shw.same sh sm0)
    refine ⟨_, rfl, a, _, 0, .ref b, rfl, rfl, SqL.of (sm0 _ _ ha), rfl, b, rfl, ⟨_, SqT.of e⟩, ?_⟩
    refine for_tup (K := K) (a := b) (xs := xs) (fun m σ H' => ∃ (l : Addr) (x y : Option V), σ = [some (.ref a), some (.ref l), x, y] ∧ Same (upd H l0 (.lst [])) H' ∧ H' l = some (.lst ((lensOf (ps.take m)).map V.str))) ⟨l0, none, none, rfl, Same.refl _, upd_same⟩ (fun m σ H' _ hP => ?_) (fun m x σ H' hm hP => ?_) (fun σ H' hP => ?_)
    · obtain ⟨l, x, y, _, s1, _⟩ := hP
      exact SqT.of (s1 _ _ e)
    · obtain ⟨l, x1, y1, rfl, s1, d1⟩ := hP
      obtain ⟨p, c, hp, rfl, ec⟩ := at_ m x hm
      refine ⟨c, _, rfl, SqT.of (s1 _ _ ec), rfl, _, _, rfl, _, _, rfl, rfl, ?_⟩
      have le := lensOf_le (ps.take m)
      rw [List.length_take] at le
      have nx : lensOf (ps.take (m + 1)) = if p.2 ∈ lensOf (ps.take m) then lensOf (ps.take m) else lensOf (ps.take m) ++ [p.2] := by
        unfold lensOf
        rw [List.take_add_one, hp, List.map_append]
        show onceS ((ps.take m).map (·.2) ++ [p.2]) = _
        rw [onceS_snoc]
      refine ⟨_, rfl, _, rfl, _, rfl, l, _, rfl, .inl (SqL.of d1), rfl, flat_strs _, _, rfl, ?_⟩
      have ei : (if true = true then !inV (.str p.2) ((lensOf (ps.take m)).map V.str) else inV (.str p.2) ((lensOf (ps.take m)).map V.str)) = !decide (p.2 ∈ lensOf (ps.take m)) := by rw [if_pos rfl, inV_str]
      rw [ei]
      by_cases mm : p.2 ∈ lensOf (ps.take m)
      · rw [decide_eq_true mm]
        refine iteF ⟨by rw [sizeLine_eq]; decide, fun g ng => ⟨l, g, (lensOf (ps.take m)).map V.str, _, rfl, rfl, ?_, upd_same, ?_, fun r nr => ?_⟩⟩
        · rw [upd_ne (ne_of_none d1 ng)]; exact d1
        · rw [List.length_map, sizeLine_eq]; show _ + 0 ≤ _; omega
        · refine ⟨r, _, _, rfl, s1.trans ((same_upd ng).trans (same_upd nr)), ?_⟩
          rw [upd_same, List.append_nil, nx, if_pos mm]
      · rw [decide_eq_false mm]
        refine iteT ⟨_, rfl, by rw [sizeLine_eq]; show 1 ≤ 16777216; decide, fun g ng => ⟨l, g, (lensOf (ps.take m)).map V.str, _, rfl, rfl, ?_, upd_same, ?_, fun r nr => ?_⟩⟩
        · rw [upd_ne (ne_of_none d1 ng)]; exact d1
        · rw [List.length_map, sizeLine_eq]; show _ + 1 ≤ _; omega
        · refine ⟨r, _, _, rfl, s1.trans ((same_upd ng).trans (same_upd nr)), ?_⟩
          rw [upd_same, nx, if_neg mm, List.map_append]
          rfl
    · obtain ⟨l, x1, y1, rfl, s1, d1⟩ := hP
      rw [ln, List.take_length] at d1
      exact ⟨_, rfl, q l H' (sm0.trans s1) d1⟩
end
end K02

set_option autoImplicit false
set_option maxRecDepth 100000
set_option maxHeartbeats 4000000
namespace K02
open PySem PySem.Spec PyProof.Rows L2 KX
abbrev sAll : Stmt := topS 39
abbrev nAll : List Str := ["_law_parts_here", "_law_heads", "_law_name", "_law_length"]
theorem scAll : FnScope nAll ["_law_parts_here"] (defScope sAll) := ⟨rfl, rfl, rfl, by decide +kernel, rfl, by decide +kernel, by decide +kernel⟩
def spAll : Sp := fun vs H Q _ => ∃ (a : Addr) (v1 v2 v3 : V) (ps : List (Str × Str)) (qs rs : List Str), vs = [.ref a] ∧ H a = some (.lst [v1, v2, v3]) ∧ Arr H v1 ps ∧ Txts H v2 qs ∧ Txts H v3 rs ∧ ps.length ≤ 1000 ∧ qs.length ≤ 1000 ∧ rs.length ≤ 1000 ∧
  ∀ (l : Addr) (H' : Hp), Same H H' → H' l = some (.lst ((wordsOf ps qs rs).map V.str)) → Q (.ref l) H'
section
variable {P : Program} {w : World} {K : PySem.W.Frag} {mg : Str → Option Value} {base : Heap}
theorem ok_all {f : Addr} {fd : FuncData} (F : Fun K "_law_all_of" "_law_all_of" sAll f fd) (L : Fnc P w K mg base CX0 1 "_law_lengths" ["_law_parts_here"] spLens2) (B : Free mg) : FnOk P w K mg base CX0 2 f fd ["_law_parts_here"] spAll := by
  refine F.ok scAll (fun vs H Q E h => ?_) (fun cdv A outer s H vs Q E hr h => ?_)
  · obtain ⟨a, v1, v2, v3, ps, qs, rs, rfl, _⟩ := h
    rfl
  · obtain ⟨a, v1, v2, v3, ps, qs, rs, rfl, ha, sh, t2, t3, few1, few2, few3, q⟩ := h
    refine ⟨_, pss_cons (ps_setLc (i := 1) (own := [("_law_name", 2), ("_law_length", 3)]) (g := gTup K 2 (gCons (gName 2) (gCons (gName 3) gNil))) (tt := tYes) rfl scAll.nd rfl rfl (sw_true rfl rfl rfl (by decide +kernel)) (pi_tup (pe_ix ix_list (pv 0) pe_int (fun _ _ => rfl))) (blkOk_by (N := nAll) (sc := defScope sAll) (by decide +kernel))
        (fun _ _ _ _ _ => pg_tup rfl (pgs_cons (pg_name (i := 2) scAll.nd rfl (Or.inl rfl) (Or.inr rfl)) (pgs_cons (pg_name (i := 3) scAll.nd rfl (Or.inl rfl) (Or.inr rfl)) pgs_nil))) (fun _ _ _ _ _ => pts_nil) (fun _ _ _ _ _ => pv 2))
      (pss_one (ps_ret (pe_op op_cat (pe_op op_cat (pv 1) (pe_fnc L hr (by omega) (by rfl) pass0 (pa_cons (pv 0) pa_nil)))
        (pe_callTy call_list_of (by rfl) B.list (by decide +kernel) (pa_cons (pe_op op_catA (pe_ix ix_list (pv 0) pe_int (fun _ _ => rfl)) (pe_ix ix_list (pv 0) pe_int (fun _ _ => rfl))) pa_nil))))), ?_⟩
    obtain ⟨b, xs, rfl, e, ln, at_⟩ := arr_get sh
    obtain ⟨a2, rfl, e2⟩ := t2
    obtain ⟨a3, rfl, e3⟩ := t3
    refine ⟨_, rfl, a, _, 0, .ref b, rfl, rfl, SqL.of ha, rfl, b, rfl, ⟨_, SqT.of e⟩, fun D nD => ?_⟩
    refine lc_tup (K := K) (a := b) (xs := xs) (fun m H' => Same H H' ∧ H' D = some (.lst ((ps.take m).map fun p => V.str p.1))) ⟨same_upd nD, upd_same⟩ (fun m H' _ hP => SqT.of (hP.1 _ _ e)) (fun m x H' hm hP => ?_) (fun H' hP => ?_)
    · obtain ⟨s1, d1⟩ := hP
      obtain ⟨p, c, hp, rfl, eb⟩ := at_ m x hm
      refine ⟨c, _, rfl, SqT.of (s1 _ _ eb), rfl, _, _, rfl, _, _, rfl, rfl, rfl, _, rfl, _, d1, ?_, fun c o z => ?_, ?_⟩
      · rw [List.length_map, List.length_take, sizeLine_eq]
        omega
      · rw [upd_ne (ne_of_none z nD)]
        exact s1 _ _ z
      · rw [upd_same, List.take_add_one, hp, List.map_append]
        rfl
    · obtain ⟨s1, d1⟩ := hP
      rw [ln, List.take_length] at d1
      have ll := lensOf_le ps
      refine ⟨.ref D, rfl, .ref a, rfl, a, .ref b, .ref a2, .ref a3, ps, rfl, s1 _ _ ha, Shw.same sh s1, few1, fun l H2 s2 e4 => ?_⟩
      have d2 := s2 _ _ d1
      have ha2 := s2 _ _ (s1 _ _ ha)
      refine ⟨D, l, _, _, rfl, rfl, d2, e4, ?_, fun r nr => ?_⟩
      · rw [List.length_map, List.length_map, sizeLine_eq]
        omega
      have s3 := same_upd (p := r) (o := .lst ((ps.map fun p => V.str p.1) ++ (lensOf ps).map V.str)) nr
      have s123 := s1.trans (s2.trans s3)
      refine ⟨.ref a, rfl, a, _, 1, .ref a2, rfl, rfl, SqL.of (s3 _ _ ha2), rfl, .ref a, rfl, a, _, 2, .ref a3, rfl, rfl, SqL.of (s3 _ _ ha2), rfl, ?_⟩
      have fin : ∀ (l2 : Addr) (H5 : Hp), Same H H5 → H5 r = some (.lst ((ps.map fun p => V.str p.1) ++ (lensOf ps).map V.str)) → H5 l2 = some (.lst ((qs ++ rs).map V.str)) → rCat (.ref r) (.ref l2) H5 Q := fun l2 H5 w5 er el => by
        refine ⟨r, l2, _, _, rfl, rfl, er, el, ?_, fun z nz => q z _ (w5.trans (same_upd nz)) ?_⟩
        · simp only [List.length_map, List.length_append, sizeLine_eq]
          omega
        · rw [upd_same]
          unfold wordsOf
          simp only [List.map_append, List.map_map, List.append_assoc]
          rfl
      have g2 := s123 _ _ e2
      have g3 := s123 _ _ e3
      have gr : (upd H2 r (.lst ((ps.map fun p => V.str p.1) ++ (lensOf ps).map V.str))) r = some (.lst ((ps.map fun p => V.str p.1) ++ (lensOf ps).map V.str)) := upd_same
      generalize upd H2 r _ = H3 at s123 g2 g3 gr ⊢
      refine ⟨a2, a3, _, _, rfl, rfl, SqT.of g2, SqT.of g3, ?_, fun h1 => ?_, fun h1 h2 => ?_, fun h1 h2 t nt => ?_⟩
      · rw [List.length_map, List.length_map, sizeLine_eq]
        omega
      · have z := List.map_eq_nil_iff.mp h1
        refine ⟨a3, _, rfl, .inr (SqT.of g3), fun l2 n2 => fin l2 _ (s123.trans (same_upd n2)) (same_upd n2 _ _ gr) ?_⟩
        rw [upd_same, z, List.nil_append]
      · have z := List.map_eq_nil_iff.mp h2
        refine ⟨a2, _, rfl, .inr (SqT.of g2), fun l2 n2 => fin l2 _ (s123.trans (same_upd n2)) (same_upd n2 _ _ gr) ?_⟩
        rw [upd_same, z, List.append_nil]
      · have st := same_upd (p := t) (o := .tup (qs.map V.str ++ rs.map V.str)) nt
        refine ⟨t, _, rfl, .inr (SqT.of upd_same), fun l2 n2 => fin l2 _ ((s123.trans st).trans (same_upd n2)) (same_upd n2 _ _ (st _ _ gr)) ?_⟩
        rw [upd_same, List.map_append]
end
end K02

set_option autoImplicit false
set_option maxRecDepth 100000
set_option maxHeartbeats 4000000
namespace K02
open PySem PySem.Spec PyProof.Rows L2 KX
theorem erase_map {f : Str → V} : ∀ (l : List Str) (i : Nat), (l.map f).eraseIdx i = (l.eraseIdx i).map f
  | [], _ => rfl
  | _ :: _, 0 => rfl
  | x :: l, i + 1 => by
    show f x :: (l.map f).eraseIdx i = f x :: (l.eraseIdx i).map f
    rw [erase_map l i]
theorem erase_perm : ∀ {l : List Str} {i : Nat} (h : i < l.length), (l[i] :: l.eraseIdx i).Perm l
  | x :: l, 0, _ => List.Perm.refl _
  | x :: l, i + 1, h => by
    show (l[i]'(Nat.lt_of_succ_lt_succ h) :: x :: l.eraseIdx i).Perm (x :: l)
    exact (List.Perm.swap _ _ _).trans ((erase_perm (Nat.lt_of_succ_lt_succ h)).cons x)
abbrev sFew : Stmt := topS 35
abbrev nFew : List Str := ["_law_creel_here", "_law_items", "_law_count", "_law_left", "_law_found", "_law_turn"]
theorem scFew : FnScope nFew ["_law_creel_here", "_law_items", "_law_count"] (defScope sFew) := ⟨rfl, rfl, rfl, by decide +kernel, rfl, by decide +kernel, by decide +kernel⟩
def Grw (a : Addr) (H H' : Hp) : Prop := ∀ b o, b ≠ a → H b = some o → H' b = some o
def spFew : Sp := fun vs H Q _ => ∃ (a p : Addr) (x y c : Int) (zs : List Str) (n : Nat), vs = [.ref a, .ref p, .int n] ∧ p ≠ a ∧ H a = some (.lst [.int x, .int y, .int c]) ∧ Cr x y c ∧ c ≤ 900000 ∧ H p = some (.lst (zs.map V.str)) ∧ zs.length ≤ 1000 ∧ n ≤ zs.length ∧
  ∀ (l : Addr) (fs ls : List Str) (x' c' : Int) (H' : Hp), fs.length = n → (fs ++ ls).Perm zs → Cr x' y c' → c' ≤ c + n → H' a = some (.lst [.int x', .int y, .int c']) → Grw a H H' → l ≠ a → H' l = some (.lst (fs.map V.str)) → Q (.ref l) H'
section
variable {P : Program} {w : World} {K : PySem.W.Frag} {mg : Str → Option Value} {base : Heap}
theorem ok_few {f : Addr} {fd : FuncData} (F : Fun K "_law_few_of" "_law_few_of" sFew f fd) (Fi : Fnc P w K mg base CX0 1 "_law_fish" ["_law_creel_here", "_law_total"] spFish) (B : Free mg) (mMin : mg "min" = none) : FnOk P w K mg base CX0 2 f fd ["_law_creel_here", "_law_items", "_law_count"] spFew := by
  refine F.ok scFew (fun vs H Q E h => ?_) (fun cdv A outer s H vs Q E hr h => ?_)
  · obtain ⟨a, p, x, y, c, zs, n, rfl, _⟩ := h
    rfl
  · obtain ⟨a, p, x, y, c, zs, n, rfl, hpa, ha, C, hc, hp, few, hn, q⟩ := h
    refine ⟨_, pss_cons (ps_par (i := 3) (j := 4) rfl scFew.nd rfl rfl (by decide) rfl rfl (pa_cons (pe_callTy call_list_of (by rfl) B.list (by decide +kernel) (pa_cons (pv 1) pa_nil)) (pa_cons (pe_lst pa_nil) pa_nil)) (by rfl))
      (pss_cons (ps_for PassesOwn.never rfl (pi_range1 (by rfl) B.range (pa_cons (pe_callB (call_min2 rfl) (by rfl) mMin (by decide +kernel) (pa_cons (pv 2) (pa_cons (pe_callB (r := rLen K) call_len_seq (by rfl) B.len PySem.boot_len (pa_cons (pv 1) pa_nil)) pa_nil))) pa_nil)) (pg_name (i := 5) scFew.nd rfl (Or.inl rfl))
        (pss_one (ps_expr (pe_bm PySem.F.plainAttrs_list PySem.F.slot_list_append PySem.F.type_list_append mt_append (pv 4) (pa_cons (pe_bm PySem.F.plainAttrs_list PySem.F.slot_list_pop PySem.F.type_list_pop mt_popAt (pv 3)
          (pa_cons (pe_fnc Fi hr (by omega) (by rfl) pass0 (pa_cons (pv 0) (pa_cons (pe_callB (r := rLen K) call_len_seq (by rfl) B.len PySem.boot_len (pa_cons (pv 3) pa_nil)) pa_nil))) pa_nil)) pa_nil)))))
      (pss_one (ps_ret (pv 4)))), ?_⟩
    refine ⟨_, rfl, p, _, rfl, .inl (SqL.of hp), fun L nL => ⟨by rw [sizeLine_eq]; decide, fun Fd nF => ⟨_, _, rfl, ?_⟩⟩⟩
    have La : L ≠ a := (ne_of_none ha nL).symm
    have Lp : L ≠ p := (ne_of_none hp nL).symm
    have FL : Fd ≠ L := fun z => by rw [z, upd_same] at nF; cases nF
    have sm := (same_upd (p := L) (o := .lst (zs.map V.str)) nL).trans (same_upd (p := Fd) (o := .lst []) nF)
    have Fa : Fd ≠ a := (ne_of_none ((same_upd (p := L) (o := .lst (zs.map V.str)) nL) _ _ ha) nF).symm
    have Fp : Fd ≠ p := (ne_of_none ((same_upd (p := L) (o := .lst (zs.map V.str)) nL) _ _ hp) nF).symm
    have hL : (upd (upd H L (.lst (zs.map V.str))) Fd (.lst [])) L = some (.lst (zs.map V.str)) := by rw [upd_ne FL.symm, upd_same]
    have hF : (upd (upd H L (.lst (zs.map V.str))) Fd (.lst [])) Fd = some (.lst []) := upd_same
    have nb : ∀ b o, H b = some o → b ≠ L ∧ b ≠ Fd := fun b o e => ⟨ne_of_none e nL, ne_of_none ((same_upd (p := L) (o := .lst (zs.map V.str)) nL) _ _ e) nF⟩
    generalize upd (upd H L _) Fd _ = H2 at sm hL hF ⊢
    have en : (if (((zs.map V.str).length : Nat) : Int) < (n : Int) then (((zs.map V.str).length : Nat) : Int) else (n : Int)) = (n : Int) := by
      rw [List.length_map]
      exact if_neg (by omega)
    refine ⟨_, rfl, _, rfl, p, _, rfl, .inl (SqL.of (sm _ _ hp)), n, _, rfl, (n : Int), by rw [en], by omega, by omega, ?_⟩
    refine for_range (fun m σ' H' => ∃ (x' c' : Int) (ls fs : List Str) (t : Option V), σ' = [some (.ref a), some (.ref p), some (.int n), some (.ref L), some (.ref Fd), t] ∧ H' a = some (.lst [.int x', .int y, .int c']) ∧ Cr x' y c' ∧ c' ≤ c + m ∧ H' L = some (.lst (ls.map V.str)) ∧ H' Fd = some (.lst (fs.map V.str)) ∧ fs.length = m ∧ (fs ++ ls).Perm zs ∧ Grw a H H')
      ⟨x, c, zs, [], none, rfl, sm _ _ ha, C, by omega, hL, hF, rfl, List.Perm.refl _, fun b o _ e => sm _ _ e⟩ (fun m σ' H' hm hP => ?_) (fun σ' H' hP => ?_)
    · obtain ⟨x', c', ls, fs, t, rfl, ha', C', hc', hl', hf', fl, pm, gw⟩ := hP
      have tot := pm.length_eq
      rw [List.length_append] at tot
      have lm : (ls.map V.str).length = ls.length := List.length_map _
      refine ⟨.ref Fd, rfl, .inl ⟨rfl, _, SqL.of hf'⟩, .ref L, rfl, .inl ⟨rfl, _, SqL.of hl'⟩, .ref a, rfl, .ref L, rfl, L, _, rfl, .inl (SqL.of hl'), a, x', y, c', _, rfl, ha', C', by omega, by omega, by omega, fun r x2 c2 h0 h1 C2 l2 => ?_⟩
      rw [lm] at h1
      have hk : r.toNat < ls.length := by omega
      have er : ((r.toNat : Nat) : Int) = r := Int.toNat_of_nonneg h0
      refine ⟨L, ls.map V.str, r, r.toNat, .str (ls[r.toNat]'hk), rfl, rfl, by rw [upd_ne La]; exact hl', by omega, by omega, by rw [lm]; exact seqIndex_of h0 h1, by rw [List.getElem?_map, List.getElem?_eq_getElem hk]; rfl, ?_⟩
      refine ⟨Fd, fs.map V.str, .str (ls[r.toNat]'hk), rfl, rfl, by rw [upd_ne FL, upd_ne Fa]; exact hf', by rw [List.length_map, sizeLine_eq]; omega, ?_⟩
      refine ⟨x2, c2, ls.eraseIdx r.toNat, fs ++ [ls[r.toNat]'hk], _, rfl, ?_, C2, by omega, ?_, ?_, by rw [List.length_append, List.length_singleton]; omega, ?_, fun b o nba e => ?_⟩
      · rw [upd_ne Fa.symm, upd_ne La.symm, upd_same]
      · rw [upd_ne FL.symm, upd_same, erase_map]
      · rw [upd_same, List.map_append]
        rfl
      · rw [List.append_assoc]
        exact (List.Perm.append_left fs (erase_perm hk)).trans pm
      · obtain ⟨n1, n2⟩ := nb b o e
        rw [upd_ne n2, upd_ne n1, upd_ne nba]
        exact gw b o nba e
    · obtain ⟨x', c', ls, fs, t, rfl, ha', C', hc', hl', hf', fl, pm, gw⟩ := hP
      exact ⟨_, rfl, q Fd fs ls x' c' H' (by rw [fl]; omega) pm C' (by omega) ha' gw Fa hf'⟩
end
end K02

set_option autoImplicit false
set_option maxRecDepth 100000
set_option maxHeartbeats 4000000
namespace K02
open PySem PySem.Spec PyProof.Rows L2 KX
abbrev sFrame : Stmt := topS 38
theorem scFrame : FnScope ["_law_parts_here"] ["_law_parts_here"] (defScope sFrame) := ⟨rfl, rfl, rfl, by decide +kernel, rfl, by decide +kernel, by decide +kernel⟩
/-- Frame(..), with its __init__ -/
structure MkF (P : Program) (w : World) (K : PySem.W.Frag) (mg : Str → Option Value) (base : Heap) (C CI : Addr) : Prop where
  gF : mg "Frame" = some (.ref C)
  ex : ∃ (fI : Addr) (fd : FuncData), Mk K C fI ∧ FnOk P w K mg base (L2N.CX P w) 5 fI fd ["self", "arrays", "positions", "values"] (spInit C CI) ∧ Binds K fd ["self", "arrays", "positions", "values"] []
def spFrame (C : Addr) : Sp := fun vs H Q _ => ∃ (a : Addr) (v1 v2 v3 : V) (d1 d2 d3 : PyData), vs = [.ref a] ∧ H a = some (.lst [v1, v2, v3]) ∧ Shw H v1 d1 ∧ Shw H v2 d2 ∧ Shw H v3 d3 ∧ gd d1 = true ∧ gd d2 = true ∧ gd d3 = true ∧ isFrame d1 d2 d3 = true ∧
  ∀ (p : Addr) (H' : Hp), Same H H' → FrameAt C H' p v1 v2 v3 (prsD d1) (strsD d2) (strsD d3) → Q (.ref p) H'
section
variable {P : Program} {w : World} {K : PySem.W.Frag} {mg : Str → Option Value} {base : Heap}
theorem ok_frame {f C CI : Addr} {fd : FuncData} (F : Fun K "_law_frame" "_law_frame" sFrame f fd) (M : MkF P w K mg base C CI) : FnOk P w K mg base CX0 7 f fd ["_law_parts_here"] (spFrame C) := by
  obtain ⟨gF, fI, fdI, M, FI, hb⟩ := M
  refine F.ok scFrame (fun vs H Q E h => ?_) (fun cdv A outer s H vs Q E hr h => ?_)
  · obtain ⟨a, v1, v2, v3, d1, d2, d3, rfl, _⟩ := h
    rfl
  · obtain ⟨a, v1, v2, v3, d1, d2, d3, rfl, ha, s1, s2, s3, g1, g2, g3, ok, q⟩ := h
    refine ⟨_, pss_one (ps_ret (pe_make M FI hr (by rfl) gF hb .nil passLN (pa_cons (pe_ix ix_list (pv 0) pe_int (fun _ _ => rfl)) (pa_cons (pe_ix ix_list (pv 0) pe_int (fun _ _ => rfl)) (pa_cons (pe_ix ix_list (pv 0) pe_int (fun _ _ => rfl)) pa_nil))))), ?_⟩
    refine ⟨.ref a, rfl, a, _, 0, v1, rfl, rfl, SqL.of ha, rfl, .ref a, rfl, a, _, 1, v2, rfl, rfl, SqL.of ha, rfl, .ref a, rfl, a, _, 2, v3, rfl, rfl, SqL.of ha, rfl, fun x dx nx ndx ne => ?_⟩
    have sm := (same_upd (p := dx) (o := .own x) ndx).trans (same_upd (p := x) (o := .ins C dx []) (by rw [upd_ne ne.symm]; exact nx))
    refine ⟨x, dx, v1, v2, v3, d1, d2, d3, rfl, upd_same, Shw.same s1 sm, Shw.same s2 sm, Shw.same s3 sm, g1, g2, g3, fun z => ?_, fun _ H' kp Fr => ⟨rfl, q x H' (fun b o e => kp b o (sm _ _ e) (ne_of_none e nx)) Fr⟩⟩
    rw [ok] at z
    cases z
end
end K02

set_option autoImplicit false
set_option maxRecDepth 100000
set_option maxHeartbeats 4000000
namespace K02
open PySem PySem.Spec PyProof.Rows L2 KX
/-! data without dicts, not deep -/
def lowD (d : PyData) : Prop := PyData.canLay0 d = true ∧ PyData.depth d ≤ 20
theorem lay_all {ds : List PyData} (h : ∀ d ∈ ds, PyData.canLay0 d = true) : PyData.canLayAll0 ds = true := by
  induction ds with
  | nil => rfl
  | cons d ds ih => simp only [PyData.canLayAll0, h d List.mem_cons_self, ih fun y hy => h y (List.mem_cons_of_mem _ hy), Bool.and_self]
theorem depth_all {n : Nat} {ds : List PyData} (h : ∀ d ∈ ds, PyData.depth d ≤ n) : PyData.depthAll ds ≤ n := by
  induction ds with
  | nil => exact Nat.zero_le _
  | cons d ds ih =>
    have a := h d List.mem_cons_self
    have b := ih fun y hy => h y (List.mem_cons_of_mem _ hy)
    simp only [PyData.depthAll]
    omega
theorem low_list {ds : List PyData} (h : ∀ d ∈ ds, lowD d) : SeqAt.shaped (.list ds) = true := by
  have c : PyData.canLay0 (.list ds) = true := by
    simp only [PyData.canLay0]
    exact lay_all fun d hd => (h d hd).1
  have d : PyData.depth (.list ds) ≤ 64 := by
    have := depth_all fun d hd => (h d hd).2
    simp only [PyData.depth]
    omega
  unfold SeqAt.shaped
  rw [c, decide_eq_true d]
  rfl
theorem eqv_nil (ds : List PyData) : PyData.eqv (.list ds) (.list []) = ds.isEmpty := by
  cases ds <;> simp [PyData.eqv, PyData.eqvAll]
theorem ShwAll.snoc {H : Hp} : ∀ {vs : List V} {ds : List PyData} {v : V} {d : PyData}, ShwAll H vs ds → Shw H v d → ShwAll H (vs ++ [v]) (ds ++ [d])
  | _, _, _, _, .nil, s => .cons s .nil
  | _, _, _, _, .cons a r, s => .cons a (ShwAll.snoc r s)
/-- a comprehension over a tuple of data that keeps some of them -/
theorem lc_tupF {K : PySem.W.Frag} {a : Addr} {xs : List V} {ds : List PyData} {g : TG} {tt : TT} {te : TE} {vs : List Nat} {σ : L2.St} {H1 : Hp} {D : Addr} {Qd : Hp → Prop} (T : PyData → Bool) (hx : H1 a = some (.tup xs)) (n : H1 D = none) (few : xs.length ≤ 100000) (sh : ShwAll H1 xs ds)
    (step : ∀ (x : V) (d : PyData) (H' : Hp) (QY : VK) (QN : Hp → Prop), d ∈ ds → Shw H' x d → Same H1 H' → (T d = true → ∀ H4, Same H' H4 → QY x H4) → (T d = false → ∀ H4, Same H' H4 → QN H4) →
      g x (wipe σ vs) H' fun σ2 H2 => wipe σ2 vs = wipe σ vs ∧ tt σ2 H2 fun b H3 => if b = true then te σ2 H3 QY else QN H3)
    (fin : ∀ H' ys, Same H1 H' → H' D = some (.lst ys) → ShwAll H' ys (ds.filter T) → Qd H') :
    ∃ W : Nat → Nat → Hp → Prop, (∃ m, W 0 m (upd H1 D (.lst []))) ∧ ∀ i m H, W i m H →
      ((Itt K a).stop i H ∧ Qd H) ∨ ((Itt K a).go i H ∧ ∃ Nx : Hp → Prop, (∀ H', Nx H' → ∃ m', m' < m ∧ W (i + 1) m' H') ∧ ∀ x H', (Itt K a).yld i H x H' → g x (wipe σ vs) H' fun σ2 H2 => wipe σ2 vs = wipe σ vs ∧ tt σ2 H2 fun b H3 =>
        if b = true then te σ2 H3 fun y H4 => ∃ acc, H4 D = some (.lst acc) ∧ acc.length < sizeLine ∧ Nx (upd H4 D (.lst (acc ++ [y]))) else Nx H3) := by
  have ln := ShwAll.len sh
  refine lc_tup (K := K) (a := a) (xs := xs) (fun m H' => Same H1 H' ∧ ∃ ys, H' D = some (.lst ys) ∧ ShwAll H1 ys ((ds.take m).filter T)) ⟨same_upd n, [], upd_same, by rw [List.take_zero]; exact .nil⟩ (fun m H' _ hP => SqT.of (hP.1 _ _ hx)) (fun m x H' hm hP => ?_) (fun H' hP => ?_)
  · obtain ⟨s1, ys, d1, sy⟩ := hP
    obtain ⟨d, hd, sd⟩ := ShwAll.get sh hm
    have nx : (ds.take (m + 1)).filter T = (ds.take m).filter T ++ (if T d = true then [d] else []) := by
      rw [List.take_add_one, hd, List.filter_append]
      congr 1
      cases e : T d <;> simp [e]
    refine step x d H' _ _ (List.mem_of_getElem? hd) (Shw.same sd s1) s1 (fun e H4 s4 => ⟨ys, s4 _ _ d1, ?_, fun b o z => ?_, ys ++ [x], upd_same, ?_⟩) (fun e H4 s4 => ⟨s1.trans s4, ys, s4 _ _ d1, ?_⟩)
    · have l2 := ShwAll.len sy
      have l3 : ((ds.take m).filter T).length ≤ (ds.take m).length := List.length_filter_le _ _
      rw [List.length_take] at l3
      rw [sizeLine_eq]
      omega
    · rw [upd_ne (ne_of_none z n)]
      exact s4 _ _ (s1 _ _ z)
    · rw [nx, if_pos e]
      exact ShwAll.snoc sy sd
    · rw [nx, if_neg (by rw [e]; exact Bool.false_ne_true), List.append_nil]
      exact sy
  · obtain ⟨s1, ys, d1, sy⟩ := hP
    rw [ln, List.take_length] at sy
    exact fin H' ys s1 d1 (ShwAll.same sy s1)
/-! strip by letters -/
theorem takeW_len {p : Nat → Bool} : ∀ (l : List Nat), l.all p = false → (l.takeWhile p).length < l.length
  | [], h => nomatch h
  | c :: l, h => by
    rw [List.takeWhile_cons]
    rw [List.all_cons] at h
    cases e : p c with
    | false => rw [if_neg Bool.false_ne_true]; exact Nat.succ_pos _
    | true =>
      rw [e, Bool.true_and] at h
      rw [if_pos rfl, List.length_cons, List.length_cons]
      exact Nat.succ_lt_succ (takeW_len l h)
theorem takeW_all {p : Nat → Bool} : ∀ (l : List Nat), l.all p = true → l.takeWhile p = l
  | [], _ => rfl
  | c :: l, h => by
    rw [List.all_cons, Bool.and_eq_true] at h
    rw [List.takeWhile_cons, if_pos h.1, takeW_all l h.2]
theorem drop_takeW {p : Nat → Bool} : ∀ (l : List Nat) (c : Nat) , (l.drop (l.takeWhile p).length).head? = some c → p c = false
  | [], c, h => by simp at h
  | x :: l, c, h => by
    rw [List.takeWhile_cons] at h
    cases e : p x with
    | false =>
      rw [e, if_neg Bool.false_ne_true] at h
      have : x = c := Option.some.inj h
      rw [← this]
      exact e
    | true =>
      rw [e, if_pos rfl] at h
      exact drop_takeW l c h
theorem stripBy_empty (p : Nat → Bool) (z : Str) : decide (Txt.stripBy p true true z = Str.empty) = z.cps.toList.all p := by
  rw [stripBy_eq]
  have lz : z.length = z.cps.toList.length := by simp [Str.length]
  cases e : z.cps.toList.all p with
  | true =>
    refine decide_eq_true ?_
    have e1 : stripLo p true z = z.length := by
      unfold stripLo
      rw [if_pos rfl, takeW_all _ e, lz]
    have e2 : stripHi p true z z.length ≤ z.length := by
      unfold stripHi
      rw [if_pos rfl]
      exact Nat.sub_le _ _
    rw [e1]
    refine TL.ext_tl ?_
    show (Builtin.Str.strSub z z.length (stripHi p true z z.length)).cps.toList = _
    rw [PySem.StrLaws.strSub_toList, Nat.sub_eq_zero_of_le e2, List.take_zero]
    rfl
  | false =>
    refine decide_eq_false fun h => ?_
    have e1 := takeW_len _ e
    have lo : stripLo p true z = (z.cps.toList.takeWhile p).length := by
      unfold stripLo
      rw [if_pos rfl]
    have hi : stripLo p true z < stripHi p true z (stripLo p true z) := by
      have nf : ((z.cps.toList.drop (stripLo p true z)).reverse).all p = false := by
        rw [List.all_reverse]
        cases e3 : z.cps.toList.drop (stripLo p true z) with
        | nil =>
          have := congrArg List.length e3
          rw [List.length_drop, lo] at this
          simp only [List.length_nil] at this
          omega
        | cons c r =>
          have : p c = false := drop_takeW z.cps.toList c (by rw [← lo, e3]; rfl)
          rw [List.all_cons, this, Bool.false_and]
      have e4 := takeW_len _ nf
      rw [List.length_reverse, List.length_drop] at e4
      unfold stripHi
      rw [if_pos rfl]
      rw [lo] at e4 ⊢
      omega
    have h2 : stripHi p true z (stripLo p true z) ≤ z.length := by
      unfold stripHi
      rw [if_pos rfl]
      exact Nat.sub_le _ _
    have l3 := size_strSub z (stripLo p true z) (stripHi p true z (stripLo p true z)) h2
    rw [h] at l3
    have : Str.empty.length = 0 := by decide +kernel
    omega
theorem strip_letters (z : Str) : decide (Txt.stripChars z "abcdefghijklmnopqrstuvwxyz" = "") = z.cps.toList.all isLet := by
  have e : (fun c => ("abcdefghijklmnopqrstuvwxyz" : Str).cps.contains c) = isLet := by
    funext c
    rw [← letter_in]
    simp [Array.contains_iff_mem]
  have e2 : ("" : Str) = Str.empty := by decide +kernel
  rw [e2]
  unfold Txt.stripChars
  rw [stripBy_empty]
  exact congrArg (fun p => z.cps.toList.all p) e
end K02

set_option autoImplicit false
set_option maxRecDepth 100000
set_option maxHeartbeats 4000000
namespace K02
open PySem PySem.Spec PyProof.Rows L2 KX
/-! data that have no list whose first item is an int: none of them is the creel -/
def headInt : List PyData → Bool
  | .int _ :: _ => true
  | _ => false
mutual
def offD : PyData → Bool
  | .list xs => !headInt xs && offAll xs
  | .tuple xs => offAll xs
  | .none | .bool _ | .int _ | .dict _ | .str _ => true
def offAll : List PyData → Bool
  | [] => true
  | x :: xs => offD x && offAll xs
end
theorem offAll_mem : ∀ {xs : List PyData}, (∀ x ∈ xs, offD x = true) → offAll xs = true
  | [], _ => rfl
  | x :: xs, h => by simp only [offAll, h x List.mem_cons_self, offAll_mem fun y hy => h y (List.mem_cons_of_mem _ hy), Bool.and_self]
section
variable {a : Addr} {i : Int} {r : List V} {H H' : Hp}
theorem head_ne {xs : List V} {ds : List PyData} (ha : H a = some (.lst (.int i :: r))) {b : Addr} (hb : H b = some (.lst xs)) (s : ShwAll H xs ds) (o : headInt ds = false) : b ≠ a := fun e => by
  subst e
  rw [ha] at hb
  cases hb
  cases s with
  | cons s1 _ =>
    cases s1
    cases o
theorem tup_ne {xs : List V} (ha : H a = some (.lst (.int i :: r))) {b : Addr} (hb : H b = some (.tup xs)) : b ≠ a := fun e => by
  subst e
  rw [ha] at hb
  cases hb
theorem dk_ne (ha : H a = some (.lst (.int i :: r))) {b : Addr} (hb : H b = some (.dK [])) : b ≠ a := fun e => by
  subst e
  rw [ha] at hb
  cases hb
mutual
theorem Shw.off (ha : H a = some (.lst (.int i :: r))) (g : Grw a H H') : ∀ {v : V} {d : PyData}, offD d = true → Shw H v d → Shw H' v d
  | _, _, _, .non => .non
  | _, _, _, .bl b => .bl b
  | _, _, _, .int i => .int i
  | _, _, _, .str x => .str x
  | _, _, o, .lst h s => by
    simp only [offD, Bool.and_eq_true, Bool.not_eq_true'] at o
    exact .lst (g _ _ (head_ne ha h s o.1) h) (ShwAll.off ha g o.2 s)
  | _, _, o, .tup h s => by
    simp only [offD] at o
    exact .tup (g _ _ (tup_ne ha h) h) (ShwAll.off ha g o s)
  | _, _, _, .dct h => .dct (g _ _ (dk_ne ha h) h)
theorem ShwAll.off (ha : H a = some (.lst (.int i :: r))) (g : Grw a H H') : ∀ {vs : List V} {ds : List PyData}, offAll ds = true → ShwAll H vs ds → ShwAll H' vs ds
  | _, _, _, .nil => .nil
  | _, _, o, .cons s1 s2 => by
    simp only [offAll, Bool.and_eq_true] at o
    exact .cons (Shw.off ha g o.1 s1) (ShwAll.off ha g o.2 s2)
end
theorem Grw.trans {H1 H2 H3 : Hp} (g : Grw a H1 H2) (k : Grw a H2 H3) : Grw a H1 H3 := fun b o n e => k b o n (g b o n e)
theorem Grw.of {H1 H2 : Hp} (s : Same H1 H2) : Grw a H1 H2 := fun b o _ e => s b o e
theorem Grw.upd {H1 : Hp} {o : HO} : Grw a H1 (upd H1 a o) := fun b o n e => by rw [upd_ne n]; exact e
end
theorem off_strs : ∀ zs : List Str, offAll (zs.map PyData.str) = true
  | [] => rfl
  | z :: zs => by simp only [List.map_cons, offAll, offD, off_strs zs, Bool.and_self]
theorem off_prs : ∀ ps : List (Str × Str), offAll (ps.map prD) = true
  | [] => rfl
  | p :: ps => by simp only [List.map_cons, offAll, offD, prD, off_prs ps, Bool.and_self]
/-! the parts of a drawn frame -/
def W16 : List Str := ["a", "b", "i", "j", "n", "m", "x", "k", "kk", "all", "not", "pos", "or", "rowrowro", "wa", "zz"]
structure GoodP (ps : List (Str × Str)) (qs rs : List Str) : Prop where
  l1 : ps.length ≤ 3
  l2 : qs.length ≤ 3
  l3 : rs.length ≤ 3
  m1 : ∀ p ∈ ps, p.1 ∈ W16 ∧ p.2 ∈ W16
  m2 : ∀ z ∈ qs, z ∈ W16
  m3 : ∀ z ∈ rs, z ∈ W16
  nd : (wordsOf ps qs rs).Nodup
theorem onceS_mem (zs : List Str) : ∀ z ∈ onceS zs, z ∈ zs := by
  have go : ∀ (zs acc : List Str), ∀ z ∈ zs.foldl (fun acc z => if z ∈ acc then acc else acc ++ [z]) acc, z ∈ acc ∨ z ∈ zs := fun zs => by
    induction zs with
    | nil => exact fun acc z h => .inl h
    | cons y ys ih =>
      intro acc z h
      rw [List.foldl_cons] at h
      rcases ih _ z h with h | h
      · by_cases m : y ∈ acc
        · rw [if_pos m] at h
          exact .inl h
        · rw [if_neg m] at h
          rcases List.mem_append.mp h with h | h
          · exact .inl h
          · rw [List.mem_singleton] at h
            subst h
            exact .inr List.mem_cons_self
      · exact .inr (List.mem_cons_of_mem _ h)
  intro z h
  rcases go zs [] z h with h | h
  · cases h
  · exact h
theorem onceS_nd (zs : List Str) : (onceS zs).Nodup := by
  have go : ∀ (zs acc : List Str), acc.Nodup → (zs.foldl (fun acc z => if z ∈ acc then acc else acc ++ [z]) acc).Nodup := fun zs => by
    induction zs with
    | nil => exact fun acc h => h
    | cons y ys ih =>
      intro acc h
      rw [List.foldl_cons]
      refine ih _ ?_
      by_cases m : y ∈ acc
      · rw [if_pos m]; exact h
      · rw [if_neg m]
        refine List.nodup_append.mpr ⟨h, List.pairwise_singleton _ _, fun x hx z hz => ?_⟩
        rw [List.mem_singleton] at hz
        subst hz
        exact fun e => m (e ▸ hx)
  exact go zs [] List.nodup_nil
theorem good_of {ws : List Str} {ps : List (Str × Str)} {m k : Nat} (nd : ws.Nodup) (ln : ws.length = 12) (mem : ∀ z ∈ ws, z ∈ W16) (h1 : ps.map (·.1) = ws.take ps.length) (l1 : ps.length ≤ 3) (h2 : ∀ p ∈ ps, p.2 ∈ (ws.drop 3).take 3) (hm : m ≤ 3) (hk : k ≤ 3) :
    GoodP ps ((ws.drop 6).take m) ((ws.drop 9).take k) := by
  have e : ws = ws.take 3 ++ ((ws.drop 3).take 3 ++ ((ws.drop 6).take 3 ++ ws.drop 9)) := by
    have a1 : (ws.drop 6).take 3 ++ ws.drop 9 = ws.drop 6 := by
      have := List.take_append_drop 3 (ws.drop 6)
      rw [List.drop_drop] at this
      exact this
    have a2 : (ws.drop 3).take 3 ++ ws.drop 6 = ws.drop 3 := by
      have := List.take_append_drop 3 (ws.drop 3)
      rw [List.drop_drop] at this
      exact this
    rw [a1, a2, List.take_append_drop]
  have nd2 := nd
  rw [e] at nd2
  obtain ⟨n1, n234, x1⟩ := List.nodup_append.mp nd2
  obtain ⟨n2, n34, x2⟩ := List.nodup_append.mp n234
  obtain ⟨n3, n4, x3⟩ := List.nodup_append.mp n34
  have s1 : ∀ z ∈ ps.map (·.1), z ∈ ws.take 3 := fun z hz => by
    rw [h1] at hz
    exact (List.take_subset_take_left ws l1) hz
  have s2 : ∀ z ∈ lensOf ps, z ∈ (ws.drop 3).take 3 := fun z hz => by
    have := onceS_mem _ z hz
    obtain ⟨p, hp, rfl⟩ := List.mem_map.mp this
    exact h2 p hp
  have s3 : ∀ z ∈ (ws.drop 6).take m, z ∈ (ws.drop 6).take 3 := fun z hz => (List.take_subset_take_left _ hm) hz
  have s4 : ∀ z ∈ (ws.drop 9).take k, z ∈ ws.drop 9 := fun z hz => List.mem_of_mem_take hz
  refine ⟨l1, by rw [List.length_take]; omega, by rw [List.length_take]; omega, fun p hp => ⟨mem _ (List.mem_of_mem_take (s1 _ (List.mem_map.mpr ⟨p, hp, rfl⟩))), mem _ (List.mem_of_mem_drop (List.mem_of_mem_take (h2 p hp)))⟩, fun z hz => mem _ (List.mem_of_mem_drop (List.mem_of_mem_take hz)), fun z hz => mem _ (List.mem_of_mem_drop (List.mem_of_mem_take hz)), ?_⟩
  unfold wordsOf
  refine List.nodup_append.mpr ⟨?_, List.nodup_append.mpr ⟨onceS_nd _, List.nodup_append.mpr ⟨List.Sublist.nodup (List.take_sublist _ _) (List.Sublist.nodup (List.drop_sublist _ _) nd), List.Sublist.nodup (List.take_sublist _ _) n4, fun y hy z hz => x3 y (s3 y hy) z (s4 z hz)⟩, fun y hy z hz => ?_⟩, fun y hy z hz => ?_⟩
  · rw [h1]
    exact List.Sublist.nodup (List.take_sublist _ _) nd
  · refine x2 y (s2 y hy) z ?_
    rcases List.mem_append.mp hz with hz | hz
    · exact List.mem_append_left _ (s3 z hz)
    · exact List.mem_append_right _ (s4 z hz)
  · refine x1 y (s1 y hy) z ?_
    rcases List.mem_append.mp hz with hz | hz
    · exact List.mem_append_left _ (s2 z hz)
    · refine List.mem_append_right _ ?_
      rcases List.mem_append.mp hz with hz | hz
      · exact List.mem_append_left _ (s3 z hz)
      · exact List.mem_append_right _ (s4 z hz)
theorem W16_nd : W16.Nodup := by decide +kernel
theorem W16_nm : ∀ z ∈ W16, nameS z = true := by decide +kernel
end K02

set_option autoImplicit false
set_option maxRecDepth 100000
set_option maxHeartbeats 4000000
namespace K02
open PySem PySem.Spec PyProof.Rows L2 KX
abbrev sPts : Stmt := topS 36
abbrev nPts : List Str := ["_law_creel_here", "_law_words", "_law_heads", "_law_at"]
theorem scPts : FnScope nPts ["_law_creel_here"] (defScope sPts) := ⟨rfl, rfl, rfl, by decide +kernel, rfl, by decide +kernel, by decide +kernel⟩
def spPts : Sp := fun vs H Q _ => ∃ (a : Addr) (x y c : Int), vs = [.ref a] ∧ H a = some (.lst [.int x, .int y, .int c]) ∧ Cr x y c ∧ c ≤ 800000 ∧
  ∀ (l : Addr) (v1 v2 v3 : V) (ps : List (Str × Str)) (qs rs : List Str) (x' c' : Int) (H' : Hp), GoodP ps qs rs → Arr H' v1 ps → Txts H' v2 qs → Txts H' v3 rs → Cr x' y c' → c' ≤ c + 20 → H' a = some (.lst [.int x', .int y, .int c']) → Grw a H H' → l ≠ a → H' l = some (.lst [v1, v2, v3]) → Q (.ref l) H'
theorem ShwAll.keepT {H H' : Hp} (g : ∀ b ys, H b = some (.tup ys) → H' b = some (.tup ys)) : ∀ (ps : List (Str × Str)) {xs : List V}, ShwAll H xs (ps.map prD) → ShwAll H' xs (ps.map prD)
  | [], _, h => by
    cases h
    exact .nil
  | p :: ps, _, h => by
    rw [List.map_cons] at h ⊢
    cases h with
    | cons h1 h2 =>
      refine .cons ?_ (ShwAll.keepT g ps h2)
      cases h1 with
      | tup e r =>
        refine .tup (g _ _ e) ?_
        cases r with
        | cons r1 r2 =>
          cases r1
          cases r2 with
          | cons r3 r4 =>
            cases r3
            cases r4
            exact .cons (.str _) (.cons (.str _) .nil)
section
variable {P : Program} {w : World} {K : PySem.W.Frag} {mg : Str → Option Value} {base : Heap}
theorem ok_pts {f : Addr} {fd : FuncData} (F : Fun K "_law_parts" "_law_parts" sPts f fd) (Fe : Fnc P w K mg base CX0 2 "_law_few_of" ["_law_creel_here", "_law_items", "_law_count"] spFew) (Fi : Fnc P w K mg base CX0 1 "_law_fish" ["_law_creel_here", "_law_total"] spFish) (B : Free mg) : FnOk P w K mg base CX0 3 f fd ["_law_creel_here"] spPts := by
  refine F.ok scPts (fun vs H Q E h => ?_) (fun cdv A outer s H vs Q E hr h => ?_)
  · obtain ⟨a, x, y, c, rfl, _⟩ := h
    rfl
  · obtain ⟨a, x, y, c, rfl, ha, C, hc, q⟩ := h
    refine ⟨_, pss_cons (ps_set (i := 1) scPts.nd rfl (.inl rfl) (pe_lst (pa_cons pe_str (pa_cons pe_str (pa_cons pe_str (pa_cons pe_str (pa_cons pe_str (pa_cons pe_str (pa_cons pe_str (pa_cons pe_str (pa_cons pe_str (pa_cons pe_str (pa_cons pe_str (pa_cons pe_str (pa_cons pe_str (pa_cons pe_str (pa_cons pe_str (pa_cons pe_str pa_nil))))))))))))))))))
      (pss_cons (ps_par (i := 1) (j := 2) rfl scPts.nd rfl rfl (by decide) rfl rfl (pa_cons (pe_fnc Fe hr (by omega) (by rfl) pass0 (pa_cons (pv 0) (pa_cons (pv 1) (pa_cons pe_int pa_nil)))) (pa_cons (pe_lst pa_nil) pa_nil)) (by rfl))
      (pss_cons (ps_for PassesOwn.never rfl (pi_range1 (by rfl) B.range (pa_cons (pe_fnc Fi hr (by omega) (by rfl) pass0 (pa_cons (pv 0) (pa_cons pe_int pa_nil))) pa_nil)) (pg_name (i := 3) scPts.nd rfl (Or.inl rfl))
        (pss_one (ps_expr (pe_bm PySem.F.plainAttrs_list PySem.F.slot_list_append PySem.F.type_list_append mt_append (pv 2) (pa_cons (pe_tup (pa_cons (pe_ix ix_list (pv 1) (pv 3) (fun _ _ => rfl))
          (pa_cons (pe_ix ix_list (pv 1) (pe_op op_add pe_int (pe_fnc Fi hr (by omega) (by rfl) pass0 (pa_cons (pv 0) (pa_cons pe_int pa_nil)))) (fun _ _ => rfl)) pa_nil))) pa_nil)))))
      (pss_one (ps_ret (pe_lst (pa_cons (pe_callTy call_tuple_of (by rfl) B.tuple (by decide +kernel) (pa_cons (pv 2) pa_nil))
        (pa_cons (pe_callTy call_tuple_of (by rfl) B.tuple (by decide +kernel) (pa_cons (pe_slice sl_list (pv 1) (po_some pe_int) (po_some (pe_op op_add pe_int (pe_fnc Fi hr (by omega) (by rfl) pass0 (pa_cons (pv 0) (pa_cons pe_int pa_nil)))))) pa_nil))
        (pa_cons (pe_callTy call_tuple_of (by rfl) B.tuple (by decide +kernel) (pa_cons (pe_slice sl_list (pv 1) (po_some pe_int) (po_some (pe_op op_add pe_int (pe_fnc Fi hr (by omega) (by rfl) pass0 (pa_cons (pv 0) (pa_cons pe_int pa_nil)))))) pa_nil)) pa_nil)))))))), ?_⟩
    refine ⟨(by rw [sizeLine_eq]; show 16 ≤ _; decide), fun W nW => ?_⟩
    show tSeq _ _ _ [some (.ref a), some (.ref W), none, none] (upd H W (.lst (W16.map V.str)))
    have Wa : W ≠ a := (ne_of_none ha nW).symm
    have sW := same_upd (p := W) (o := .lst (W16.map V.str)) nW
    refine ⟨.ref a, rfl, .ref W, rfl, a, W, x, y, c, W16, 12, rfl, Wa, sW _ _ ha, C, by omega, upd_same, by decide, by decide, fun l ws ls x1 c1 H1 lw pm C1 e1 ha1 g1 nl d1 => ?_⟩
    refine ⟨(by rw [sizeLine_eq]; decide), fun Ar nA => ⟨_, _, rfl, ?_⟩⟩
    have Aa : Ar ≠ a := (ne_of_none ha1 nA).symm
    have Al : Ar ≠ l := (ne_of_none d1 nA).symm
    have sA := same_upd (p := Ar) (o := .lst []) nA
    have g2 : Grw a H (upd H1 Ar (.lst [])) := (((Grw.of sW).trans g1).trans (Grw.of sA))
    have ha2 := sA _ _ ha1
    have d2 := sA _ _ d1
    have dA : (upd H1 Ar (.lst [])) Ar = some (.lst []) := upd_same
    have nAH : H Ar = none := by
      cases e : H Ar with
      | none => rfl
      | some o =>
        have := (((Grw.of sW).trans g1) Ar o Aa e)
        rw [nA] at this
        cases this
    generalize upd H1 Ar (.lst []) = H2 at g2 ha2 d2 dA ⊢
    refine ⟨.ref a, rfl, a, x1, y, c1, 4, rfl, ha2, C1, by omega, by omega, by omega, fun k x2 c2 k0 k4 C2 e2 => ?_⟩
    have memW : ∀ z ∈ ws, z ∈ W16 := fun z hz => pm.subset (List.mem_append_left _ hz)
    have ndW : ws.Nodup := (List.nodup_append.mp (pm.nodup_iff.mpr W16_nd)).1
    have ha3 : (upd H2 a (.lst [.int x2, .int y, .int c2])) a = some (.lst [.int x2, .int y, .int c2]) := upd_same
    have d3 : (upd H2 a (.lst [.int x2, .int y, .int c2])) l = some (.lst (ws.map V.str)) := by rw [upd_ne nl]; exact d2
    have dA3 : (upd H2 a (.lst [.int x2, .int y, .int c2])) Ar = some (.lst []) := by rw [upd_ne Aa]; exact dA
    have g3 : Grw a H (upd H2 a (.lst [.int x2, .int y, .int c2])) := g2.trans Grw.upd
    generalize upd H2 a (.lst [.int x2, .int y, .int c2]) = H3 at ha3 d3 dA3 g3 ⊢
    have lnW : ∀ {i : Nat}, i < 12 → ∃ z, ws[i]? = some z := fun {i} hi => ⟨_, List.getElem?_eq_getElem (by rw [lw]; exact hi)⟩
    refine ⟨k, rfl, by omega, by omega, ?_⟩
    refine for_range (fun m σ' H' => ∃ (x' c' : Int) (ps : List (Str × Str)) (xs : List V) (t : Option V), σ' = [some (.ref a), some (.ref l), some (.ref Ar), t] ∧ H' a = some (.lst [.int x', .int y, .int c']) ∧ Cr x' y c' ∧ c' ≤ c2 + m ∧ H' l = some (.lst (ws.map V.str)) ∧ H' Ar = some (.lst xs) ∧ ShwAll H' xs (ps.map prD) ∧ ps.length = m ∧ ps.map (·.1) = ws.take m ∧ (∀ p ∈ ps, p.2 ∈ (ws.drop 3).take 3) ∧ Grw a H H')
      ⟨x2, c2, [], [], none, rfl, ha3, C2, by omega, d3, dA3, .nil, rfl, rfl, (fun p hp => nomatch hp), g3⟩ (fun m σ' H' hm hP => ?_) (fun σ' H' hP => ?_)
    · obtain ⟨x', c', ps, xs, t, rfl, ha', C', hc', dl, dAr, sx, lp, e1p, e2p, gw⟩ := hP
      have hm3 : m < 4 := by omega
      obtain ⟨z1, hz1⟩ := lnW (i := m) (by omega)
      have em : (0 : Int) + (m : Nat) = ((m : Nat) : Int) := by omega
      rw [em]
      refine ⟨.ref Ar, rfl, .inl ⟨rfl, _, SqL.of dAr⟩, .ref l, rfl, .int m, rfl, l, _, _, .str z1, rfl, rfl, SqL.of dl, atI_nat (by rw [List.getElem?_map, hz1]; rfl), ?_⟩
      refine ⟨.ref l, rfl, .ref a, rfl, a, x', y, c', 2, rfl, ha', C', by omega, by omega, by omega, fun r x3 c3 r0 r2 C3 e3 => ?_⟩
      have hr5 : (3 + r.toNat) < 12 := by omega
      obtain ⟨z2, hz2⟩ := lnW hr5
      have er : (3 : Int) + r = ((3 + r.toNat : Nat) : Int) := by omega
      have ha5 : (upd H' a (.lst [.int x3, .int y, .int c3])) a = some (.lst [.int x3, .int y, .int c3]) := upd_same
      have d5 : (upd H' a (.lst [.int x3, .int y, .int c3])) l = some (.lst (ws.map V.str)) := by rw [upd_ne nl]; exact dl
      have dA5 : (upd H' a (.lst [.int x3, .int y, .int c3])) Ar = some (.lst xs) := by rw [upd_ne Aa]; exact dAr
      have g5 : Grw a H (upd H' a (.lst [.int x3, .int y, .int c3])) := gw.trans Grw.upd
      have sx5 := ShwAll.off ha' (Grw.upd (o := .lst [.int x3, .int y, .int c3])) (off_prs ps) sx
      generalize upd H' a (.lst [.int x3, .int y, .int c3]) = H5 at ha5 d5 dA5 g5 sx5 ⊢
      refine ⟨3, r, rfl, rfl, l, _, 3 + r, .str z2, rfl, rfl, SqL.of d5, by rw [er]; exact atI_nat (by rw [List.getElem?_map, hz2]; rfl), (by rw [sizeLine_eq]; show 2 ≤ _; decide), fun T nT => ?_⟩
      have sT := same_upd (p := T) (o := .tup [.str z1, .str z2]) nT
      have lx := ShwAll.len sx5
      rw [List.length_map] at lx
      have Ta := ne_of_none dA5 nT
      refine ⟨Ar, xs, .ref T, rfl, rfl, sT _ _ dA5, by rw [sizeLine_eq]; omega, ?_⟩
      have gA : ∀ b o, b ≠ Ar → (upd H5 T (.tup [.str z1, .str z2])) b = some o → (upd (upd H5 T (.tup [.str z1, .str z2])) Ar (.lst (xs ++ [.ref T]))) b = some o := fun b o n e => by rw [upd_ne n]; exact e
      have shT : ShwAll (upd (upd H5 T (.tup [.str z1, .str z2])) Ar (.lst (xs ++ [.ref T]))) (xs ++ [.ref T]) ((ps ++ [(z1, z2)]).map prD) := by
        rw [List.map_append]
        refine ShwAll.snoc ?_ ?_
        · have q1 := ShwAll.same sx5 sT
          exact (ShwAll.keepT (fun b ys e => gA b _ (fun z => by rw [z, sT _ _ dA5] at e; cases e) e) ps q1)
        · exact .tup (by rw [upd_ne Ta.symm, upd_same]) (.cons (.str _) (.cons (.str _) .nil))
      refine ⟨x3, c3, ps ++ [(z1, z2)], xs ++ [.ref T], _, rfl, ?_, C3, by omega, ?_, upd_same, shT, by rw [List.length_append, lp]; rfl, ?_, ?_, fun b o nb e => ?_⟩
      · rw [upd_ne (Ne.symm Aa), sT _ _ ha5]
      · rw [upd_ne (Ne.symm Al), sT _ _ d5]
      · rw [List.map_append, e1p, List.take_add_one, hz1]
        rfl
      · intro p hp
        rcases List.mem_append.mp hp with hp | hp
        · exact e2p p hp
        · rw [List.mem_singleton] at hp
          subst hp
          refine List.mem_of_getElem? (i := r.toNat) ?_
          rw [List.getElem?_take, if_pos (by omega), List.getElem?_drop]
          exact hz2
      · have := sT _ _ (g5 b o nb e)
        rw [upd_ne (fun z => by rw [z, nAH] at e; cases e)]
        exact this
    · obtain ⟨x', c', ps, xs, t, rfl, ha', C', hc', dl, dAr, sx, lp, e1p, e2p, gw⟩ := hP
      refine ⟨.ref Ar, rfl, Ar, xs, rfl, .inl ⟨SqL.of dAr, fun t1 n1 => ?_⟩⟩
      have s1 := same_upd (p := t1) (o := .tup xs) n1
      have y1 : Arr (upd H' t1 (.tup xs)) (.ref t1) ps := .tup upd_same (ShwAll.same sx s1)
      have ha6 := s1 _ _ ha'
      have d6 := s1 _ _ dl
      have g6 := gw.trans (Grw.of s1)
      generalize upd H' t1 (.tup xs) = H6 at y1 ha6 d6 g6 ⊢
      refine ⟨.ref l, rfl, 6, rfl, .ref a, rfl, a, x', y, c', 4, rfl, ha6, C', by omega, by omega, by omega, fun r4 x4 c4 r40 r44 C4 e4 => ⟨6, r4, rfl, rfl, 6 + r4, rfl, ?_⟩⟩
      have ha7 : (upd H6 a (.lst [.int x4, .int y, .int c4])) a = some (.lst [.int x4, .int y, .int c4]) := upd_same
      have d7 : (upd H6 a (.lst [.int x4, .int y, .int c4])) l = some (.lst (ws.map V.str)) := by rw [upd_ne nl]; exact d6
      have g67 : Grw a H6 (upd H6 a (.lst [.int x4, .int y, .int c4])) := Grw.upd
      have g7 := g6.trans g67
      have y7 : Arr (upd H6 a (.lst [.int x4, .int y, .int c4])) (.ref t1) ps := Shw.off ha6 g67 (by simp only [offD, off_prs]) y1
      generalize upd H6 a (.lst [.int x4, .int y, .int c4]) = H7 at ha7 d7 g7 y7 ⊢
      refine ⟨l, _, rfl, SqL.of d7, fun p2 n2 => ⟨p2, _, rfl, .inl ⟨SqL.of upd_same, fun t2 n3 => ?_⟩⟩⟩
      have cut : ∀ (o : Nat) (r : Int), 0 ≤ r → r < 4 → o + 3 ≤ 12 → cutV (ws.map V.str) (some (o : Int)) (some ((o : Int) + r)) = ((ws.drop o).take r.toNat).map V.str := fun o r h0 h4 ho => by
        unfold cutV
        rw [List.length_map, lw]
        have e1 : HT.sIx 12 0 (some (o : Int)) = o := by rw [HT.sIx_nat]; omega
        have e2 : HT.sIx 12 12 (some ((o : Int) + r)) = o + r.toNat := by
          have : (o : Int) + r = ((o + r.toNat : Nat) : Int) := by omega
          rw [this, HT.sIx_nat]
          omega
        rw [e1, e2, ← List.map_drop, ← List.map_take, Nat.add_sub_cancel_left]
      have s2 := (same_upd (p := p2) (o := .lst (cutV (ws.map V.str) (some 6) (some (6 + r4)))) n2).trans (same_upd (p := t2) (o := .tup (cutV (ws.map V.str) (some 6) (some (6 + r4)))) n3)
      have y2 : Txts (upd (upd H7 p2 (.lst (cutV (ws.map V.str) (some 6) (some (6 + r4))))) t2 (.tup (cutV (ws.map V.str) (some 6) (some (6 + r4))))) (.ref t2) ((ws.drop 6).take r4.toNat) := ⟨t2, rfl, by rw [upd_same]; exact congrArg (fun z => some (HO.tup z)) (cut 6 r4 r40 r44 (by decide))⟩
      have ha8 := s2 _ _ ha7
      have d8 := s2 _ _ d7
      have y8 : Arr _ (.ref t1) ps := Shw.same y7 s2
      have g8 := g7.trans (Grw.of s2)
      generalize upd (upd H7 p2 (.lst (cutV (ws.map V.str) (some 6) (some (6 + r4))))) t2 (.tup (cutV (ws.map V.str) (some 6) (some (6 + r4)))) = H8 at y2 ha8 d8 y8 g8 ⊢
      refine ⟨.ref l, rfl, 9, rfl, .ref a, rfl, a, x4, y, c4, 4, rfl, ha8, C4, by omega, by omega, by omega, fun r5 x5 c5 r50 r54 C5 e5 => ⟨9, r5, rfl, rfl, 9 + r5, rfl, ?_⟩⟩
      have ha9 : (upd H8 a (.lst [.int x5, .int y, .int c5])) a = some (.lst [.int x5, .int y, .int c5]) := upd_same
      have d9 : (upd H8 a (.lst [.int x5, .int y, .int c5])) l = some (.lst (ws.map V.str)) := by rw [upd_ne nl]; exact d8
      have g89 : Grw a H8 (upd H8 a (.lst [.int x5, .int y, .int c5])) := Grw.upd
      have g9 := g8.trans g89
      have y9 : Arr (upd H8 a (.lst [.int x5, .int y, .int c5])) (.ref t1) ps := Shw.off ha8 g89 (by simp only [offD, off_prs]) y8
      have z9 : Txts (upd H8 a (.lst [.int x5, .int y, .int c5])) (.ref t2) ((ws.drop 6).take r4.toNat) := by
        obtain ⟨b, e, h⟩ := y2
        exact ⟨b, e, g89 _ _ (tup_ne ha8 h) h⟩
      generalize upd H8 a (.lst [.int x5, .int y, .int c5]) = H9 at ha9 d9 g9 y9 z9 ⊢
      refine ⟨l, _, rfl, SqL.of d9, fun p3 n4 => ⟨p3, _, rfl, .inl ⟨SqL.of upd_same, fun t3 n5 => ?_⟩⟩⟩
      have s3 := (same_upd (p := p3) (o := .lst (cutV (ws.map V.str) (some 9) (some (9 + r5)))) n4).trans (same_upd (p := t3) (o := .tup (cutV (ws.map V.str) (some 9) (some (9 + r5)))) n5)
      have y3 : Txts (upd (upd H9 p3 (.lst (cutV (ws.map V.str) (some 9) (some (9 + r5))))) t3 (.tup (cutV (ws.map V.str) (some 9) (some (9 + r5))))) (.ref t3) ((ws.drop 9).take r5.toNat) := ⟨t3, rfl, by rw [upd_same]; exact congrArg (fun z => some (HO.tup z)) (cut 9 r5 r50 r54 (by decide))⟩
      have ha10 := s3 _ _ ha9
      have y10 : Arr _ (.ref t1) ps := Shw.same y9 s3
      have z10 : Txts _ (.ref t2) _ := Txts.same z9 s3
      have g10 := g9.trans (Grw.of s3)
      generalize upd (upd H9 p3 (.lst (cutV (ws.map V.str) (some 9) (some (9 + r5))))) t3 (.tup (cutV (ws.map V.str) (some 9) (some (9 + r5)))) = H10 at y3 ha10 y10 z10 g10 ⊢
      refine ⟨(by rw [sizeLine_eq]; show 3 ≤ _; decide), fun L nL => ?_⟩
      have s4 := same_upd (p := L) (o := .lst [.ref t1, .ref t2, .ref t3]) nL
      exact q L _ _ _ ps _ _ x5 c5 _ (good_of ndW lw memW (by rw [e1p, lp]) (by omega) e2p (by omega) (by omega)) (Shw.same y10 s4) (Txts.same z10 s4) (Txts.same y3 s4) C5 (by omega) (s4 _ _ ha10) (g10.trans (Grw.of s4)) (ne_of_none ha10 nL).symm upd_same
end
end K02

set_option autoImplicit false
set_option maxRecDepth 100000
set_option maxHeartbeats 4000000
namespace K02
open PySem PySem.Spec PyProof.Rows L2 KX
/-- a tuple of names, of any length -/
def areN : PyData → Bool
  | .tuple ds => ds.all isNm
  | _ => false
def isStrP : PyData → Bool
  | .str _ => true
  | _ => false
/-- what is in a tuple has no dict and is not deep -/
def lowIn : PyData → Prop
  | .tuple ds => ∀ d ∈ ds, lowD d
  | _ => True
def badN : PyData → Bool
  | .str z => !nameS z
  | _ => true
theorem filter_all (T : PyData → Bool) (ds : List PyData) : (ds.filter T).isEmpty = ds.all fun d => !T d := by
  induction ds with
  | nil => rfl
  | cons d ds ih =>
    rw [List.filter_cons, List.all_cons, ← ih]
    cases T d <;> rfl
theorem name_split (z : Str) : (!nameS z) = ((!decide (0 < (z.length : Int) ∧ (z.length : Int) < 9)) || !decide (Txt.stripChars z "abcdefghijklmnopqrstuvwxyz" = "")) := by
  rw [strip_letters]
  unfold nameS
  rw [Bool.not_and]
  congr 1
  exact congrArg _ (decide_eq_decide.mpr (by omega))
section
variable {P : Program} {w : World} {K : PySem.W.Frag} {mg : Str → Option Value} {base : Heap}
theorem kit_strP (d : PyData) : kitB (tyD d) "str" = some (isStrP d) := by
  have a : (["NoneType", "bool", "int", "tuple", "list", "dict"].all fun t => kitB t "str" == some false) = true := by decide +kernel
  have b := fun t h => beq_iff_eq.mp (List.all_eq_true.mp a t h)
  cases d with
  | str ds => show kitB "str" "str" = some true; decide +kernel
  | none => exact b "NoneType" (by simp)
  | bool _ => exact b "bool" (by simp)
  | int _ => exact b "int" (by simp)
  | tuple _ => exact b "tuple" (by simp)
  | list _ => exact b "list" (by simp)
  | dict _ => exact b "dict" (by simp)
theorem low_in {d : PyData} (h : lowD d) : lowIn d := by
  cases d with
  | tuple ds =>
    obtain ⟨h1, h2⟩ := h
    have a : PyData.canLayAll0 ds = true := by simpa only [PyData.canLay0] using h1
    have b : PyData.depthAll ds ≤ 20 := by
      simp only [PyData.depth] at h2
      omega
    clear h1 h2
    show ∀ d ∈ ds, lowD d
    induction ds with
    | nil => exact fun d hd => nomatch hd
    | cons y ys ih =>
      simp only [PyData.canLayAll0, Bool.and_eq_true] at a
      simp only [PyData.depthAll] at b
      intro d hd
      rcases List.mem_cons.mp hd with rfl | hd
      · exact ⟨a.1, by omega⟩
      · exact ih a.2 (by omega) d hd
  | _ => exact True.intro
end
end K02

set_option autoImplicit false
set_option maxRecDepth 100000
set_option maxHeartbeats 4000000
namespace K02
open PySem PySem.Spec PyProof.Rows L2 KX
/-! small data: few items, texts out of a list -/
def LX0 : List Str := ["", "A", "ninelette", "*1", "a b", "new", "other", "ab", "one", "two"]
def LX1 : List Str := ["three", "wb", "wc", "wd", "we", "wf", "wg", "wh", "wi", "wj", "wk", "wl"]
def LX2 : List Str := ["wm", "wn", "wo", "wp", "c", "d", "e", "f", "g", "h", "l"]
def LW : List Str := W16 ++ (LX0 ++ (LX1 ++ (LX2)))
def sm : Nat → PyData → Bool
  | _, .none => true
  | _, .bool _ => true
  | _, .int i => decide (i = 0)
  | _, .str z => decide (z ∈ LW)
  | 0, .tuple _ => false
  | 0, .list _ => false
  | k + 1, .tuple ds => decide (ds.length ≤ 13) && ds.all (sm k)
  | k + 1, .list ds => decide (ds.length ≤ 13) && (!headInt ds && ds.all (sm k))
  | _, .dict _ => false
theorem sm_up : ∀ (k : Nat) (d : PyData), sm k d = true → sm (k + 1) d = true
  | k, .none, _ => by cases k <;> rfl
  | k, .bool b, _ => by cases k <;> rfl
  | k, .int i, h => by cases k <;> exact h
  | k, .str z, h => by cases k <;> exact h
  | 0, .tuple _, h => by cases h
  | 0, .list _, h => by cases h
  | k + 1, .tuple ds, h => by
    simp only [sm, Bool.and_eq_true] at h
    obtain ⟨h1, h2⟩ := h
    show (decide (ds.length ≤ 13) && ds.all (sm (k + 1))) = true
    rw [h1, Bool.true_and]
    exact List.all_eq_true.mpr fun d hd => sm_up k d (List.all_eq_true.mp h2 d hd)
  | k + 1, .list ds, h => by
    simp only [sm, Bool.and_eq_true] at h
    obtain ⟨h1, h2, h3⟩ := h
    show (decide (ds.length ≤ 13) && (!headInt ds && ds.all (sm (k + 1)))) = true
    rw [h1, h2, Bool.true_and, Bool.true_and]
    exact List.all_eq_true.mpr fun d hd => sm_up k d (List.all_eq_true.mp h3 d hd)
  | k, .dict _, h => by cases k <;> cases h
theorem sm_le {k n : Nat} {d : PyData} (h : sm k d = true) (l : k ≤ n) : sm n d = true := by
  induction l with
  | refl => exact h
  | step _ ih => exact sm_up _ _ ih
theorem LW_ok : ∀ z ∈ LW, z.length ≤ 9 ∧ (z.cps.toList.all fun c => decide (c < 0x110000)) = true ∧ PyData.strOk z = true ∧ (PyData.str z).shown.length ≤ 13 := by
  have h : (LW.all fun z => decide (z.length ≤ 9) && ((z.cps.toList.all fun c => decide (c < 0x110000)) && (PyData.strOk z && decide ((PyData.str z).shown.length ≤ 13)))) = true := by decide +kernel
  intro z hz
  have := List.all_eq_true.mp h z hz
  simp only [Bool.and_eq_true, decide_eq_true_eq] at this
  exact this
theorem gdAll_of {xs : List PyData} (h : ∀ x ∈ xs, gd x = true) : gdAll xs = true := by
  induction xs with
  | nil => rfl
  | cons x xs ih => simp only [gdAll, h x List.mem_cons_self, ih fun y hy => h y (List.mem_cons_of_mem _ hy), Bool.and_self]
theorem showableAll_of {xs : List PyData} (h : ∀ x ∈ xs, PyData.showable x = true) : PyData.showableAll xs = true := by
  induction xs with
  | nil => rfl
  | cons x xs ih => simp only [PyData.showableAll, h x List.mem_cons_self, ih fun y hy => h y (List.mem_cons_of_mem _ hy), Bool.and_self]
theorem sum_le {l : List Nat} {B : Nat} (h : ∀ x ∈ l, x ≤ B) : l.sum ≤ l.length * B := by
  induction l with
  | nil => simp
  | cons x l ih =>
    have h1 := h x List.mem_cons_self
    have h2 := ih fun y hy => h y (List.mem_cons_of_mem _ hy)
    rw [List.sum_cons, List.length_cons, Nat.succ_mul]
    omega
theorem shown_sum {B : Nat} {ds : List PyData} (n : ds.length ≤ 13) (h : ∀ d ∈ ds, d.shown.length ≤ B) : ((PyData.shownAll ds).map (·.length)).sum + 2 * (PyData.shownAll ds).length + 3 ≤ 13 * B + 29 := by
  have e := PyData.shownAll_length ds
  have mem : ∀ (ds : List PyData), (∀ d ∈ ds, d.shown.length ≤ B) → ∀ t ∈ PyData.shownAll ds, t.length ≤ B := fun ds => by
    induction ds with
    | nil => intro _ t ht; simp [PyData.shownAll] at ht
    | cons d ds ih =>
      intro h t ht
      simp only [PyData.shownAll, List.mem_cons] at ht
      rcases ht with rfl | ht
      · exact h d List.mem_cons_self
      · exact ih (fun y hy => h y (List.mem_cons_of_mem _ hy)) t ht
  have z := sum_le (l := (PyData.shownAll ds).map (·.length)) (B := B) fun x hx => by
    obtain ⟨t, ht, rfl⟩ := List.mem_map.mp hx
    exact mem ds h t ht
  rw [List.length_map, e] at z
  have : ds.length * B ≤ 13 * B := Nat.mul_le_mul_right _ n
  omega
def shB : Nat → Nat
  | 0 => 13
  | k + 1 => 13 * shB k + 29
structure SmOk (k : Nat) (d : PyData) : Prop where
  g : gd d = true
  lay : PyData.canLay0 d = true
  dep : PyData.depth d ≤ k
  off : offD d = true
  show_ : PyData.showable d = true
  len : d.shown.length ≤ shB k
  few : lenD d ≤ 13
theorem shB_ge (k : Nat) : 13 ≤ shB k := by
  cases k with
  | zero => exact Nat.le_refl _
  | succ k => show 13 ≤ 13 * shB k + 29; omega
theorem sm_ok : ∀ (k : Nat) (d : PyData), sm k d = true → SmOk k d
  | k, .none, _ => ⟨rfl, rfl, Nat.zero_le _, rfl, rfl, Nat.le_trans (by decide +kernel) (shB_ge k), Nat.zero_le _⟩
  | k, .bool b, _ => ⟨rfl, rfl, Nat.zero_le _, rfl, rfl, Nat.le_trans (by cases b <;> decide +kernel) (shB_ge k), Nat.zero_le _⟩
  | k, .int i, h => by
    have e : i = 0 := by cases k <;> exact of_decide_eq_true h
    subst e
    exact ⟨rfl, rfl, Nat.zero_le _, rfl, by decide +kernel, Nat.le_trans (by decide +kernel) (shB_ge k), Nat.zero_le _⟩
  | k, .str z, h => by
    have e : z ∈ LW := by cases k <;> exact of_decide_eq_true h
    obtain ⟨h1, h2, h3, h4⟩ := LW_ok z e
    refine ⟨?_, h3, Nat.zero_le _, rfl, rfl, Nat.le_trans h4 (shB_ge k), Nat.zero_le _⟩
    simp only [gd, h2, Bool.and_true]
    exact decide_eq_true (by omega)
  | 0, .tuple _, h => by cases h
  | 0, .list _, h => by cases h
  | k + 1, .tuple ds, h => by
    simp only [sm, Bool.and_eq_true, decide_eq_true_eq] at h
    obtain ⟨h1, h2⟩ := h
    have ih := fun d hd => sm_ok k d (List.all_eq_true.mp h2 d hd)
    refine ⟨?_, ?_, ?_, ?_, ?_, ?_, h1⟩
    · simp only [gd, gdAll_of fun d hd => (ih d hd).g, Bool.and_true]
      exact decide_eq_true (by omega)
    · simp only [PyData.canLay0]
      exact lay_all fun d hd => (ih d hd).lay
    · have := depth_all fun d hd => (ih d hd).dep
      simp only [PyData.depth]
      omega
    · simp only [offD]
      exact offAll_mem fun d hd => (ih d hd).off
    · simp only [PyData.showable]
      exact showableAll_of fun d hd => (ih d hd).show_
    · simp only [PyData.shown]
      exact Nat.le_trans (tupleText_len_le _) (shown_sum h1 fun d hd => (ih d hd).len)
  | k + 1, .list ds, h => by
    simp only [sm, Bool.and_eq_true, decide_eq_true_eq] at h
    obtain ⟨h1, h3, h2⟩ := h
    have ih := fun d hd => sm_ok k d (List.all_eq_true.mp h2 d hd)
    refine ⟨?_, ?_, ?_, ?_, ?_, ?_, Nat.zero_le _⟩
    · simp only [gd, gdAll_of fun d hd => (ih d hd).g, Bool.and_true]
      exact decide_eq_true (by omega)
    · simp only [PyData.canLay0]
      exact lay_all fun d hd => (ih d hd).lay
    · have := depth_all fun d hd => (ih d hd).dep
      simp only [PyData.depth]
      omega
    · simp only [offD, h3, Bool.true_and]
      exact offAll_mem fun d hd => (ih d hd).off
    · simp only [PyData.showable]
      exact showableAll_of fun d hd => (ih d hd).show_
    · simp only [PyData.shown]
      exact Nat.le_trans (listText_len_le _) (shown_sum h1 fun d hd => (ih d hd).len)
  | k, .dict _, h => by cases k <;> cases h
/-- a component of what the law judges -/
def comp : PyData → Bool
  | .dict [] => true
  | .dict _ => false
  | d => sm 3 d
structure CompOk (d : PyData) : Prop where
  g : gd d = true
  low : lowIn d
  off : offD d = true
  show_ : PyData.showable d = true
  dep : PyData.depth d ≤ 3
  len : d.shown.length ≤ 40000
  few : lenD d ≤ 13
theorem sm_low {k : Nat} {d : PyData} (hk : k ≤ 20) (h : sm k d = true) : lowD d := by
  have := sm_ok k d h
  exact ⟨this.lay, by have := this.dep; omega⟩
theorem comp_ok {d : PyData} (h : comp d = true) : CompOk d := by
  have go : sm 3 d = true → CompOk d := fun h => by
    have o := sm_ok 3 d h
    exact ⟨o.g, low_in (sm_low (by decide) h), o.off, o.show_, o.dep, Nat.le_trans o.len (by decide), o.few⟩
  cases d with
  | dict kvs =>
    cases kvs with
    | nil => exact ⟨rfl, trivial, rfl, by decide +kernel, by decide +kernel, by decide +kernel, Nat.zero_le _⟩
    | cons a b => cases h
  | _ => exact go h
theorem show_list {ds : List PyData} (n : ds.length ≤ 13) (h : ∀ d ∈ ds, comp d = true) : (PyData.list ds).showable = true ∧ (PyData.list ds).depth ≤ 60 ∧ (PyData.list ds).shown.length ≤ 1000000 := by
  have ih := fun d hd => comp_ok (h d hd)
  refine ⟨?_, ?_, ?_⟩
  · simp only [PyData.showable]
    exact showableAll_of fun d hd => (ih d hd).show_
  · have := depth_all fun d hd => (ih d hd).dep
    simp only [PyData.depth]
    omega
  · simp only [PyData.shown]
    refine Nat.le_trans (listText_len_le _) (Nat.le_trans (shown_sum n fun d hd => (ih d hd).len) (by decide))
end K02

set_option autoImplicit false
set_option maxRecDepth 100000
set_option maxHeartbeats 4000000
namespace K02
open PySem PySem.Spec PyProof.Rows L2 KX
/-- a promise of a def that runs with no repr underway -/
def RunG (P : Program) (w : World) (K : PySem.W.Frag) (mg : Str → Option Value) (base : Heap) (k : Nat) (f : Addr) (fd : FuncData) (ps : List Str) (sp : Sp) : Prop :=
  ∀ (A : Around) (outer : List Env) (s : Shared) (H : Hp) (args : Args) (us : List Value) (vs : List V) (Q : VK) (E : XK), A.guards = some [] → Room k A → Env0 P w K mg base A outer s H → BindsTo s fd args (ps.zip us) → Vals vs us → vs.length = ps.length → sp vs H Q E →
    codeAny (model P w) A (.call (.ref f) args) (CR CX0 outer P w H s Q E) s
theorem Fun.okG {P : Program} {w : World} {K : PySem.W.Frag} {mg : Str → Option Value} {base : Heap} {x qual : Str} {st : Stmt} {f : Addr} {fd : FuncData} {N ps : List Str} {k : Nat} {sp : Sp} (F : Fun K x qual st f fd) (S : FnScope N ps (defScope st))
    (hbody : ∀ (cdv : Value) (A : Around) (outer : List Env) (s : Shared) (H : Hp) (vs : List V) (Q : VK) (E : XK), (A.deeper (envOfC qual (defScope st) s.heap.objs.size f cdv)).guards = some [] → Room k (A.deeper (envOfC qual (defScope st) s.heap.objs.size f cdv)) → sp vs H Q E →
      ∃ t, PSs (cxOf CX0 P w K mg base N qual (defScope st) f cdv A outer s H E).nox (defBody st) t ∧ t { nx := fun _ H' => Q .non H', rt := Q } (L2.start N vs) H) : RunG P w K mg base (k + 1) f fd ps sp := by
  obtain ⟨oc, od, kV, doc, pm, an, cdv, ct, osl, rfl, lk, hcd⟩ := F.ex
  intro A outer s H args us vs Q E hG hr e0 hb r hl hsp
  refine LamX.run_ofS (N := N) lk hcd S hr e0 hb r hl fun hr' => ?_
  obtain ⟨t, h, q⟩ := hbody cdv A outer s H vs Q E hG hr' hsp
  exact ⟨t, h.nox, q⟩
/-- a def of the module with such a promise -/
structure FncG (P : Program) (w : World) (K : PySem.W.Frag) (mg : Str → Option Value) (base : Heap) (k : Nat) (x : Str) (ps : List Str) (sp : Sp) : Prop where
  ex : ∃ (f : Addr) (fd : FuncData), RunG P w K mg base k f fd ps sp ∧ Binds K fd ps [] ∧ mg x = some (.ref f) ∧ PySem.W.keepIn K (.ref f) = true
section
variable {X : Cx} {k j : Nat} {ps : List Str} {sp : Sp} {x : Str} {p pos : Pos} {e : Expr} {es : List Expr} {t : TA}
def tCallG (n : Nat) (sp : Sp) (t : TA) : TE := fun σ H Q => t σ H fun vs H1 => vs.length = n ∧ sp vs H1 Q E0
theorem pe_fncG (F : FncG X.prog X.w X.K X.mg X.base k x ps sp) (hG : X.A.guards = some []) (hr : Room j X.A) (hk : k ≤ j) (hg : Gl X x) (ha : PA X (e :: es) t)
    (hdb : (x == ("__debug__" : Str)) = false := by decide) (he : starEach (e :: es) X.env = (false, eval e X.env) :: starEach es X.env := by rfl) (hpl : (backTo pos (starEach es X.env)).any (·.1) = false := by rfl) :
    PE X (.Call (.Name x p) (e :: es) [] pos) (tCallG ps.length sp t) := by
  obtain ⟨f, fd, F, hb, hm, hk2⟩ := F.ex
  refine ⟨fun pins s σ H Q I h => ?_⟩
  refine wpAny_Call_Name_kw (ld_glob I hg hm ?_ hdb)
  refine PySem.W.callWith_K (h₀ := X.base) I.ok.mod.kin hk2 (thn (ha.run pos pins s σ H _ I h) fun us s1 ⟨vs, H1, I1, r, hl, q⟩ => ⟨I1.kIn, ?_⟩) he hpl
  have bt : BindsTo s1 fd ⟨us, []⟩ (ps.zip us) := by
    have z := hb s1 us I1.kIn (by rw [List.append_nil, ← r.length]; exact hl)
    rw [List.append_nil] at z
    exact z
  refine wpAny_call (codeAny_mono (F X.A X.stack s1 H1 ⟨us, []⟩ us vs Q E0 hG (hr.mono hk) I1.env0 bt r hl q) fun o s' hq => ?_)
  match o, hq with
  | .ok (.ret u), hq => exact I1.after hq
  | .ok .next, hq => exact False.elim hq
  | .ok .brk, hq => exact False.elim hq
  | .ok .cont, hq => exact False.elim hq
  | .error u, hq => exact False.elim hq
theorem ps_imp {st : Stmt} {t u : TS} (h : PS X st t) (i : ∀ D σ H, u D σ H → t D σ H) : PS X st u := ⟨fun pins s σ H D I q => h.run pins s σ H D I (i _ _ _ q)⟩
end
/-- repr(True), repr(False) -/
theorem call_repr_bl {X : Cx} : CallR X (.builtin "repr") (fun xs H Q => ∃ b : Bool, xs = [.bl b] ∧ Q (.str (if b then "True" else "False")) H) := by
  intro pins s σ H vs us Q I r h
  obtain ⟨b, rfl, q⟩ := h
  obtain ⟨u, rfl, rr⟩ := vals1 r
  obtain rfl : u = Value.bool b := rr
  exact PySem.P.repr_of_bool ⟨.str _, H, I.tok _, ⟨_, rfl⟩, q⟩
/-- a property with its promise -/
structure Prp (P : Program) (w : World) (K : PySem.W.Frag) (mg : Str → Option Value) (base : Heap) (C : Addr) (n : Str) (sp : Sp) : Prop where
  ex : ∃ (p g : Addr) (fd : FuncData), PropOf K C n p g ∧ FnOk P w K mg base CX0 1 g fd ["self"] sp ∧ Binds K fd ["self"] []
theorem pe_prp {X : Cx} {C : Addr} {n : Str} {sp : Sp} {j : Nat} {e : Expr} {ta : TE} {pos : Pos} (R : Prp X.prog X.w X.K X.mg X.base C n sp) (he : PE X e ta) (c : Cls X.K C) (hr : Room j X.A) (hk : 2 ≤ j) (hab : attributeBase e n X.env (eval e X.env) = eval e X.env := by rfl) :
    PE X (.Attribute e n pos) (tProp C sp [] E0 ta) := by
  obtain ⟨p, g, fd, hp, F, hb⟩ := R.ex
  exact pe_prop he c hp F (hr.mono hk) hb .nil pass0 hab
end K02

set_option autoImplicit false
set_option maxRecDepth 100000
set_option maxHeartbeats 4000000
namespace K02
open PySem PySem.Spec PyProof.Rows L2 KX
section
variable {K : PySem.W.Frag} {a : Addr} {xs : List V} {g : TG} {tt : TT} {te : TE} {vs : List Nat} {σ : L2.St} {H1 : Hp} {D : Addr} {Qd : Hp → Prop}
/-- a comprehension over a list that keeps none -/
theorem lc_noneL (hx : H1 a = some (.lst xs)) (n : H1 D = none)
    (step : ∀ (i : Nat) (x : V) (H' : Hp) (QY : VK) (QN : Hp → Prop), xs[i]? = some x → Same H1 H' → (∀ H4, Same H' H4 → QN H4) →
      g x (wipe σ vs) H' fun σ2 H2 => wipe σ2 vs = wipe σ vs ∧ tt σ2 H2 fun b H3 => if b = true then te σ2 H3 QY else QN H3)
    (fin : ∀ H', Same H1 H' → H' D = some (.lst []) → Qd H') :
    ∃ W : Nat → Nat → Hp → Prop, (∃ m, W 0 m (upd H1 D (.lst []))) ∧ ∀ i m H, W i m H →
      ((Itl K a).stop i H ∧ Qd H) ∨ ((Itl K a).go i H ∧ ∃ Nx : Hp → Prop, (∀ H', Nx H' → ∃ m', m' < m ∧ W (i + 1) m' H') ∧ ∀ x H', (Itl K a).yld i H x H' → g x (wipe σ vs) H' fun σ2 H2 => wipe σ2 vs = wipe σ vs ∧ tt σ2 H2 fun b H3 =>
        if b = true then te σ2 H3 fun y H4 => ∃ acc, H4 D = some (.lst acc) ∧ acc.length < sizeLine ∧ Nx (upd H4 D (.lst (acc ++ [y]))) else Nx H3) :=
  lc_list (K := K) (a := a) (xs := xs) (fun _ H' => Same H1 H' ∧ H' D = some (.lst [])) ⟨same_upd n, upd_same⟩ (fun i H' _ hP => SqL.of (hP.1 _ _ hx)) (fun i x H' hi hP => step i x H' _ _ hi hP.1 fun H4 s4 => ⟨hP.1.trans s4, s4 _ _ hP.2⟩) (fun H' hP => fin H' hP.1 hP.2)
/-- .. over a tuple -/
theorem lc_noneT (hx : H1 a = some (.tup xs)) (n : H1 D = none)
    (step : ∀ (i : Nat) (x : V) (H' : Hp) (QY : VK) (QN : Hp → Prop), xs[i]? = some x → Same H1 H' → (∀ H4, Same H' H4 → QN H4) →
      g x (wipe σ vs) H' fun σ2 H2 => wipe σ2 vs = wipe σ vs ∧ tt σ2 H2 fun b H3 => if b = true then te σ2 H3 QY else QN H3)
    (fin : ∀ H', Same H1 H' → H' D = some (.lst []) → Qd H') :
    ∃ W : Nat → Nat → Hp → Prop, (∃ m, W 0 m (upd H1 D (.lst []))) ∧ ∀ i m H, W i m H →
      ((Itt K a).stop i H ∧ Qd H) ∨ ((Itt K a).go i H ∧ ∃ Nx : Hp → Prop, (∀ H', Nx H' → ∃ m', m' < m ∧ W (i + 1) m' H') ∧ ∀ x H', (Itt K a).yld i H x H' → g x (wipe σ vs) H' fun σ2 H2 => wipe σ2 vs = wipe σ vs ∧ tt σ2 H2 fun b H3 =>
        if b = true then te σ2 H3 fun y H4 => ∃ acc, H4 D = some (.lst acc) ∧ acc.length < sizeLine ∧ Nx (upd H4 D (.lst (acc ++ [y]))) else Nx H3) :=
  lc_tup (K := K) (a := a) (xs := xs) (fun _ H' => Same H1 H' ∧ H' D = some (.lst [])) ⟨same_upd n, upd_same⟩ (fun i H' _ hP => SqT.of (hP.1 _ _ hx)) (fun i x H' hi hP => step i x H' _ _ hi hP.1 fun H4 s4 => ⟨hP.1.trans s4, s4 _ _ hP.2⟩) (fun H' hP => fin H' hP.1 hP.2)
end
theorem keysK_mem {v : V} {zs : List Str} {z : Str} (h : z ∈ zs) : ((.inr z : Key), v) ∈ keysK v zs := List.mem_map.mpr ⟨z, h, rfl⟩
theorem kinds_at {ps : List (Str × Str)} {qs rs : List Str} (nd : (wordsOf ps qs rs).Nodup) {z : Str} {v : V} (h : ((.inr z : Key), v) ∈ kindsOf ps qs rs) : valV (kindsOf ps qs rs) (.inr z) = some v := by
  refine val_nodup ?_ _ h
  rw [kinds_keys]
  exact List.pairwise_map.mpr (List.Pairwise.imp (fun h e => h (Sum.inr.inj e)) nd)
end K02

set_option autoImplicit false
set_option maxRecDepth 100000
set_option maxHeartbeats 4000000
namespace K02
open PySem PySem.Spec PyProof.Rows L2 KX
open Classical in
/-- all but what is at F, and at the foreign addresses -/
noncomputable def hd (Y : Addr → Prop) (F : Addr) (H : Hp) : Hp := fun b => if b = F ∨ Y b then none else H b
/-- what is left out is there -/
def Fx (Y : Addr → Prop) (F : Addr) (H : Hp) : Prop := ∀ b, b = F ∨ Y b → ∃ o, H b = some o
section
variable {Y : Addr → Prop} {F a p : Addr} {H H' : Hp} {o : HO} {v : V} {d : PyData} {vs : List V} {ds : List PyData}
theorem hd_ne {b : Addr} (n : ¬ (b = F ∨ Y b)) : hd Y F H b = H b := by
  unfold hd
  rw [if_neg n]
theorem hd_in {b : Addr} {o : HO} (e : hd Y F H b = some o) : ¬ (b = F ∨ Y b) := fun h => by
  unfold hd at e
  rw [if_pos h] at e
  cases e
theorem hd_sub : Same (hd Y F H) H := fun b o e => by
  rw [hd_ne (hd_in e)] at e
  exact e
theorem hd_same (s : Same H H') : Same (hd Y F H) (hd Y F H') := fun b o e => by
  have n := hd_in e
  rw [hd_ne n] at e ⊢
  exact s _ _ e
theorem hd_grw (s : Grw a H H') : Grw a (hd Y F H) (hd Y F H') := fun b o ne e => by
  have n := hd_in e
  rw [hd_ne n] at e ⊢
  exact s _ _ ne e
theorem hd_put : Same (hd Y F H) (upd H F o) := fun b o e => by
  have n := hd_in e
  rw [hd_ne n] at e
  rw [upd_ne fun h => n (.inl h)]
  exact e
theorem hd_at (hF : Fx Y F H) (n : H p = none) : ¬ (p = F ∨ Y p) := fun e => by
  obtain ⟨o, h⟩ := hF p e
  rw [h] at n
  cases n
theorem hd_upd (hF : Fx Y F H) (n : H p = none) : hd Y F (upd H p o) p = some o := by
  rw [hd_ne (hd_at hF n), upd_same]
end
def cutA {α : Type} (xs : List α) (lo hi : Option Int) : List α := (xs.drop (HT.sIx xs.length 0 lo)).take (HT.sIx xs.length xs.length hi - HT.sIx xs.length 0 lo)
theorem ShwAll.drop {H : Hp} : ∀ {vs : List V} {ds : List PyData} (n : Nat), ShwAll H vs ds → ShwAll H (vs.drop n) (ds.drop n)
  | _, _, 0, s => by simpa using s
  | _, _, n + 1, .nil => by simpa using ShwAll.nil
  | _, _, n + 1, .cons _ r => by simpa using ShwAll.drop n r
theorem ShwAll.take {H : Hp} : ∀ {vs : List V} {ds : List PyData} (n : Nat), ShwAll H vs ds → ShwAll H (vs.take n) (ds.take n)
  | _, _, 0, s => by simpa using ShwAll.nil
  | _, _, n + 1, .nil => by simpa using ShwAll.nil
  | _, _, n + 1, .cons a r => by
    rw [List.take_succ_cons, List.take_succ_cons]
    exact .cons a (ShwAll.take n r)
theorem ShwAll.rev {H : Hp} : ∀ {vs : List V} {ds : List PyData}, ShwAll H vs ds → ShwAll H vs.reverse ds.reverse
  | _, _, .nil => .nil
  | _, _, .cons a r => by
    rw [List.reverse_cons, List.reverse_cons]
    exact ShwAll.snoc (ShwAll.rev r) a
theorem cut_whole {α : Type} {xs : List α} {lo hi : Option Int} (h : HT.sIx xs.length 0 lo = 0 ∧ HT.sIx xs.length xs.length hi = xs.length) : cutA xs lo hi = xs := by
  unfold cutA
  rw [h.1, h.2, List.drop_zero, Nat.sub_zero, List.take_length]
section
variable {K : PySem.W.Frag} {Y : Addr → Prop} {F : Addr} {H : Hp} {x y : V} {ds es : List PyData} {Q : VK}
theorem tup_get' {H : Hp} {v : V} {ds : List PyData} (s : Shw H v (.tuple ds)) : ∃ (a : Addr) (xs : List V), v = .ref a ∧ H a = some (.tup xs) ∧ ShwAll H xs ds := by
  cases s with
  | tup e r => exact ⟨_, _, rfl, e, r⟩
/-- t + u, by data -/
theorem cat_data (hF : Fx Y F H) (sx : Shw (hd Y F H) x (.tuple ds)) (sy : Shw (hd Y F H) y (.tuple es)) (few : ds.length + es.length ≤ 1000) (q : ∀ v H', Same H H' → Shw (hd Y F H') v (.tuple (ds ++ es)) → Q v H') : rCatA K x y H Q := by
  obtain ⟨a, xs, rfl, e1, r1⟩ := tup_get' sx
  obtain ⟨b, ys, rfl, e2, r2⟩ := tup_get' sy
  have l1 := ShwAll.len r1
  have l2 := ShwAll.len r2
  refine ⟨a, b, xs, ys, rfl, rfl, SqT.of (hd_sub _ _ e1), SqT.of (hd_sub _ _ e2), by rw [sizeLine_eq]; omega, fun h => ?_, fun _ h => ?_, fun _ _ p np => ?_⟩
  · subst h
    cases r1
    exact q _ H (Same.refl H) (by rw [List.nil_append]; exact sy)
  · subst h
    cases r2
    exact q _ H (Same.refl H) (by rw [List.append_nil]; exact sx)
  · have s := same_upd (p := p) (o := .tup (xs ++ ys)) np
    exact q _ _ s (.tup (hd_upd hF np) (ShwAll.same (ShwAll.app r1 r2) (hd_same s)))
/-- t[lo:hi], by data -/
theorem cut_data {lo hi : Option Int} (hF : Fx Y F H) (sx : Shw (hd Y F H) x (.tuple ds)) (q : ∀ v H', Same H H' → Shw (hd Y F H') v (.tuple (cutA ds lo hi)) → Q v H') : rSlA K x lo hi H Q := by
  obtain ⟨a, xs, rfl, e1, r1⟩ := tup_get' sx
  have l1 := ShwAll.len r1
  refine ⟨a, xs, rfl, SqT.of (hd_sub _ _ e1), fun h => ?_, fun _ p np => ?_⟩
  · rw [l1] at h
    exact q _ H (Same.refl H) (by rw [cut_whole h]; exact sx)
  · have s := same_upd (p := p) (o := .tup (cutV xs lo hi)) np
    have r2 : ShwAll (hd Y F H) (cutV xs lo hi) (cutA ds lo hi) := by
      unfold cutV cutA
      rw [l1]
      exact ShwAll.take _ (ShwAll.drop _ r1)
    exact q _ _ s (.tup (hd_upd hF np) (ShwAll.same r2 (hd_same s)))
theorem tup_data {v : V} {d : PyData} (hF : Fx Y F H) (sv : Shw (hd Y F H) v d) {p : Addr} (np : H p = none) : Shw (hd Y F (upd H p (.tup [v]))) (.ref p) (.tuple [d]) :=
  .tup (hd_upd hF np) (.cons (Shw.same sv (hd_same (same_upd np))) .nil)
end
end K02

set_option autoImplicit false
set_option maxRecDepth 100000
set_option maxHeartbeats 4000000
/-! right parts, of the words that the law uses -/
namespace K02
open PySem PySem.Spec PyProof.Rows L2 KX
theorem iteF' {c : Bool} {A B : Prop} (h : c = false) (b : B) : if c = true then A else B := by
  rw [h]
  exact iteF b
theorem iteT' {c : Bool} {A B : Prop} (h : c = true) (b : A) : if c = true then A else B := by
  rw [h]
  exact iteT b
theorem eqv_str_refl (z : Str) : PyData.eqv (.str z) (.str z) = true := by simp [PyData.eqv]
theorem eqvAll_refl {ds : List PyData} (h : ∀ d ∈ ds, PyData.eqv d d = true) : PyData.eqvAll ds ds = true := by
  induction ds with
  | nil => rfl
  | cons d ds ih => simp only [PyData.eqvAll, h d List.mem_cons_self, ih fun y hy => h y (List.mem_cons_of_mem _ hy), Bool.and_self]
theorem eqv_frD (ps : List (Str × Str)) (qs rs : List Str) : PyData.eqv (frD ps qs rs) (frD ps qs rs) = true := by
  have h1 : ∀ zs : List Str, PyData.eqv (.tuple (zs.map PyData.str)) (.tuple (zs.map PyData.str)) = true := fun zs => by
    simp only [PyData.eqv]
    refine eqvAll_refl fun d hd => ?_
    obtain ⟨z, _, rfl⟩ := List.mem_map.mp hd
    exact eqv_str_refl z
  have h2 : PyData.eqv (.tuple (ps.map prD)) (.tuple (ps.map prD)) = true := by
    simp only [PyData.eqv]
    refine eqvAll_refl fun d hd => ?_
    obtain ⟨p, _, rfl⟩ := List.mem_map.mp hd
    unfold prD
    simp only [PyData.eqv]
    refine eqvAll_refl fun d hd => ?_
    simp only [List.mem_cons, List.not_mem_nil, or_false] at hd
    rcases hd with rfl | rfl
    · exact eqv_str_refl _
    · exact eqv_str_refl _
  unfold frD
  simp only [PyData.eqv]
  refine eqvAll_refl fun d hd => ?_
  simp only [List.mem_cons, List.not_mem_nil, or_false] at hd
  rcases hd with rfl | rfl | rfl
  · exact h2
  · exact h1 qs
  · exact h1 rs
theorem prs_back (ps : List (Str × Str)) : prsD (.tuple (ps.map prD)) = ps := by
  show (ps.map prD).map pairD = ps
  rw [List.map_map]
  exact (List.map_congr_left fun p _ => rfl).trans (List.map_id ps)
theorem strs_back (zs : List Str) : strsD (.tuple (zs.map PyData.str)) = zs := by
  show (zs.map PyData.str).map txtD = zs
  rw [List.map_map]
  exact (List.map_congr_left fun p _ => rfl).trans (List.map_id zs)
/-- the words of the law's parts -/
def W18 : List Str := W16 ++ (["new", "old", "c"] : List Str)
theorem W18_nm : ∀ z ∈ W18, nameS z = true := by decide +kernel
theorem W18_gd : ∀ z ∈ W18, gd (.str z) = true := by decide +kernel
theorem W18_ok : ∀ z ∈ W18, PyData.strOk z = true := by decide +kernel
theorem W18_ln : ∀ z ∈ W18, z.length ≤ 8 := by decide +kernel
theorem W16_18 {z : Str} (h : z ∈ W16) : z ∈ W18 := List.mem_append_left _ h
/-- parts of these words -/
structure Wds (ps : List (Str × Str)) (qs rs : List Str) : Prop where
  m1 : ∀ p ∈ ps, p.1 ∈ W18 ∧ p.2 ∈ W18
  m2 : ∀ z ∈ qs, z ∈ W18
  m3 : ∀ z ∈ rs, z ∈ W18
def isLetP (ps : List (Str × Str)) (qs rs : List Str) : Bool := nodupW (wordsOf ps qs rs) && (decide (ps.length < 13) && (decide (qs.length < 7) && decide (rs.length < 7)))
section
variable {ps ps2 : List (Str × Str)} {qs rs qs2 rs2 : List Str}
theorem GoodP.wds (g : GoodP ps qs rs) : Wds ps qs rs := ⟨fun p hp => ⟨W16_18 (g.m1 p hp).1, W16_18 (g.m1 p hp).2⟩, fun z hz => W16_18 (g.m2 z hz), fun z hz => W16_18 (g.m3 z hz)⟩
theorem Wds.add (a : Wds ps qs rs) (b : Wds ps2 qs2 rs2) : Wds (ps ++ ps2) (qs ++ qs2) (rs ++ rs2) :=
  ⟨fun p hp => (List.mem_append.mp hp).elim (a.m1 p) (b.m1 p), fun z hz => (List.mem_append.mp hz).elim (a.m2 z) (b.m2 z), fun z hz => (List.mem_append.mp hz).elim (a.m3 z) (b.m3 z)⟩
theorem gd_strs18 {zs : List Str} (n : zs.length ≤ 1000) (h : ∀ z ∈ zs, z ∈ W18) : gd (.tuple (zs.map PyData.str)) = true := by
  have e : gdAll (zs.map PyData.str) = true := gdAll_of fun d hd => by
    obtain ⟨z, hz, rfl⟩ := List.mem_map.mp hd
    exact W18_gd z (h z hz)
  simp only [gd]
  rw [e, Bool.and_true, List.length_map]
  exact decide_eq_true n
theorem gd_prs18 {ps : List (Str × Str)} (n : ps.length ≤ 1000) (h : ∀ p ∈ ps, p.1 ∈ W18 ∧ p.2 ∈ W18) : gd (.tuple (ps.map prD)) = true := by
  have e : gdAll (ps.map prD) = true := gdAll_of fun d hd => by
    obtain ⟨p, hp, rfl⟩ := List.mem_map.mp hd
    have a := W18_gd _ (h p hp).1
    have b := W18_gd _ (h p hp).2
    unfold prD
    simp only [gd, gdAll] at a b ⊢
    rw [a, b]
    rfl
  simp only [gd]
  rw [e, Bool.and_true, List.length_map]
  exact decide_eq_true n
theorem isFrame_let (w : Wds ps qs rs) : isFrame (.tuple (ps.map prD)) (.tuple (qs.map PyData.str)) (.tuple (rs.map PyData.str)) = isLetP ps qs rs := by
  have nmS : ∀ {zs : List Str} {n : Nat}, (∀ z ∈ zs, z ∈ W18) → areNm n (.tuple (zs.map PyData.str)) = decide (zs.length < n + 1) := fun {zs n} h => by
    show (decide ((zs.map PyData.str).length ≤ n) && (zs.map PyData.str).all isNm) = _
    have e : (zs.map PyData.str).all isNm = true := List.all_eq_true.mpr fun d hd => by
      obtain ⟨z, hz, rfl⟩ := List.mem_map.mp hd
      exact W18_nm z (h z hz)
    rw [List.length_map, e, Bool.and_true]
    exact decide_eq_decide.mpr ⟨fun _ => by omega, fun _ => by omega⟩
  have h1 : areArr (.tuple (ps.map prD)) = decide (ps.length < 13) := by
    show (decide ((ps.map prD).length ≤ 12) && (ps.map prD).all isPr) = _
    have e : (ps.map prD).all isPr = true := List.all_eq_true.mpr fun d hd => by
      obtain ⟨p, hp, rfl⟩ := List.mem_map.mp hd
      have a := W18_nm _ (w.m1 p hp).1
      have b := W18_nm _ (w.m1 p hp).2
      show ((true && (nameS p.1 && (nameS p.2 && true))) && true) = true
      rw [a, b]
      rfl
    rw [List.length_map, e, Bool.and_true]
    exact decide_eq_decide.mpr ⟨fun _ => by omega, fun _ => by omega⟩
  unfold isFrame isLetP wordsD
  rw [h1, nmS w.m2, nmS w.m3, prs_back, strs_back, strs_back]
  cases nodupW (wordsOf ps qs rs) <;> cases decide (ps.length < 13) <;> cases decide (qs.length < 6 + 1) <;> cases decide (rs.length < 6 + 1) <;> rfl
/-- right parts of these words -/
structure GoodQ (ps : List (Str × Str)) (qs rs : List Str) : Prop where
  w : Wds ps qs rs
  l1 : ps.length ≤ 12
  l2 : qs.length ≤ 6
  l3 : rs.length ≤ 6
  nd : (wordsOf ps qs rs).Nodup
theorem GoodQ.of (w : Wds ps qs rs) (h : isLetP ps qs rs = true) : GoodQ ps qs rs := by
  unfold isLetP at h
  rw [Bool.and_eq_true, Bool.and_eq_true, Bool.and_eq_true] at h
  have a := of_decide_eq_true h.2.1
  have b := of_decide_eq_true h.2.2.1
  have c := of_decide_eq_true h.2.2.2
  exact ⟨w, by omega, by omega, by omega, (nodupW_is h.1).1⟩
theorem GoodQ.let_ (g : GoodQ ps qs rs) : isLetP ps qs rs = true := by
  have l1 := g.l1
  have l2 := g.l2
  have l3 := g.l3
  unfold isLetP nodupW
  rw [onceS_id g.nd, decide_eq_true (by omega), decide_eq_true (by omega), decide_eq_true (by omega), decide_eq_true (by omega)]
  rfl
theorem GoodP.q (g : GoodP ps qs rs) : GoodQ ps qs rs := by
  have l1 := g.l1
  have l2 := g.l2
  have l3 := g.l3
  exact ⟨g.wds, by omega, by omega, by omega, g.nd⟩
theorem GoodQ.frame (g : GoodQ ps qs rs) : isFrame (.tuple (ps.map prD)) (.tuple (qs.map PyData.str)) (.tuple (rs.map PyData.str)) = true := (isFrame_let g.w).trans g.let_
theorem GoodQ.okF (g : GoodQ ps qs rs) : okF ps qs rs := by
  refine ⟨fun z hz => ?_, fun z hz => ?_, fun z hz => W18_ok z (g.w.m2 z hz), fun z hz => W18_ok z (g.w.m3 z hz)⟩
  · obtain ⟨p, hp, rfl⟩ := List.mem_map.mp hz
    exact W18_ok _ (g.w.m1 p hp).1
  · obtain ⟨p, hp, rfl⟩ := List.mem_map.mp hz
    exact W18_ok _ (g.w.m1 p hp).2
theorem lens_mem {z : Str} (h : z ∈ lensOf ps) : z ∈ ps.map (·.2) := onceS_mem _ z h
theorem GoodQ.words (g : Wds ps qs rs) : ∀ z ∈ wordsOf ps qs rs, z ∈ W18 := fun z hz => by
  unfold wordsOf at hz
  rcases List.mem_append.mp hz with h | h
  · obtain ⟨p, hp, rfl⟩ := List.mem_map.mp h
    exact (g.m1 p hp).1
  · rcases List.mem_append.mp h with h | h
    · obtain ⟨p, hp, rfl⟩ := List.mem_map.mp (lens_mem h)
      exact (g.m1 p hp).2
    · exact (List.mem_append.mp h).elim (g.m2 z) (g.m3 z)
end
end K02

set_option autoImplicit false
set_option maxRecDepth 100000
set_option maxHeartbeats 4000000
/-! integers, as they are passed -/
namespace K02
open PySem PySem.Spec PyProof.Rows L2 KX
def lim : Int := 1000000000000000000000000000000000000000000000000000000000000
/-- an integer of any length, neither True nor False -/
def isWh : PyData → Bool
  | .int _ => true
  | _ => false
/-- an integer of at most sixty digits -/
def isIg : PyData → Bool
  | .int i => decide (-lim < i) && decide (i < lim)
  | _ => false
def isBl : PyData → Bool
  | .bool _ => true
  | _ => false
def isIb : PyData → Bool
  | .bool _ | .int _ => true
  | _ => false
theorem kit_int (d : PyData) : kitB (tyD d) "int" = some (isIb d) := by
  have a : (["NoneType", "tuple", "str", "list", "dict"].all fun t => kitB t "int" == some false) = true := by decide +kernel
  have b := fun t h => beq_iff_eq.mp (List.all_eq_true.mp a t h)
  cases d with
  | tuple ds => exact b "tuple" (by simp)
  | none => exact b "NoneType" (by simp)
  | bool _ => show kitB "bool" "int" = some true; decide +kernel
  | int _ => show kitB "int" "int" = some true; decide +kernel
  | str _ => exact b "str" (by simp)
  | list _ => exact b "list" (by simp)
  | dict _ => exact b "dict" (by simp)
theorem kit_bool (d : PyData) : kitB (tyD d) "bool" = some (isBl d) := by
  have a : (["NoneType", "tuple", "str", "list", "dict", "int"].all fun t => kitB t "bool" == some false) = true := by decide +kernel
  have b := fun t h => beq_iff_eq.mp (List.all_eq_true.mp a t h)
  cases d with
  | tuple ds => exact b "tuple" (by simp)
  | none => exact b "NoneType" (by simp)
  | bool _ => show kitB "bool" "bool" = some true; decide +kernel
  | int _ => exact b "int" (by simp)
  | str _ => exact b "str" (by simp)
  | list _ => exact b "list" (by simp)
  | dict _ => exact b "dict" (by simp)
abbrev sWhole : Stmt := topS 9
abbrev sIg : Stmt := topS 10
theorem scWhole : FnScope ["value"] ["value"] (defScope sWhole) := ⟨rfl, rfl, rfl, by decide +kernel, rfl, by decide +kernel, by decide +kernel⟩
theorem scIg : FnScope ["value"] ["value"] (defScope sIg) := ⟨rfl, rfl, rfl, by decide +kernel, rfl, by decide +kernel, by decide +kernel⟩
def spWhole : Sp := fun vs H Q _ => ∃ (v : V) (d : PyData), vs = [v] ∧ Shw H v d ∧ Q (.bl (isWh d)) H
def spIg : Sp := fun vs H Q _ => ∃ (v : V) (d : PyData), vs = [v] ∧ Shw H v d ∧ Q (.bl (isIg d)) H
section
variable {P : Program} {w : World} {K : PySem.W.Frag} {mg : Str → Option Value} {base : Heap}
theorem ok_whole {f : Addr} {fd : FuncData} (F : Fun K "is_whole" "is_whole" sWhole f fd) (B : Free mg) (bb : mg "bool" = none) : FnOk P w K mg base CX0 1 f fd ["value"] spWhole := by
  refine F.ok scWhole (fun vs H Q E h => ?_) (fun cdv A outer s H vs Q E hr h => ?_)
  · obtain ⟨v, d, rfl, _⟩ := h
    rfl
  · obtain ⟨v, d, rfl, sh, q⟩ := h
    refine ⟨_, pss_one (ps_ret (pe_and (pe_callB call_isi (by rfl) B.isinstance (by decide +kernel) (pa_cons (pv 0) (pa_cons (pe_bltn (v := .ty "int") (by rfl) B.int (by decide +kernel) rfl) pa_nil)))
      (pe_one (pe_not (pe_callB call_isi (by rfl) B.isinstance (by decide +kernel) (pa_cons (pv 0) (pa_cons (pe_bltn (v := .ty "bool") (by rfl) bb (by decide +kernel) rfl) pa_nil))))))), ?_⟩
    refine ⟨v, rfl, v, .ty "int", _, _, isIb d, rfl, .ty _, shw_ty sh, kit_ty (kit_int d), isIb d, rfl, ?_⟩
    cases d with
    | int i => exact ⟨v, rfl, v, .ty "bool", _, _, false, rfl, .ty _, shw_ty sh, kit_ty (kit_bool (.int i)), _, rfl, q⟩
    | bool b => exact ⟨v, rfl, v, .ty "bool", _, _, true, rfl, .ty _, shw_ty sh, kit_ty (kit_bool (.bool b)), _, rfl, q⟩
    | none => exact q
    | str _ => exact q
    | list _ => exact q
    | tuple _ => exact q
    | dict _ => exact q
theorem ok_ig {f : Addr} {fd : FuncData} {tk : Tok} (F : Fun K "is_integer" "is_integer" sIg f fd) (W : Fnc P w K mg base CX0 1 "is_whole" ["value"] spWhole) (gL : mg "LIMIT" = some (.int lim tk)) :
    FnOk P w K mg base CX0 2 f fd ["value"] spIg := by
  refine F.ok scIg (fun vs H Q E h => ?_) (fun cdv A outer s H vs Q E hr h => ?_)
  · obtain ⟨v, d, rfl, _⟩ := h
    rfl
  · obtain ⟨v, d, rfl, sh, q⟩ := h
    refine ⟨_, pss_one (ps_ret (pe_and (pe_fnc W hr (by omega) (by rfl) pass0 (pa_cons (pv 0) pa_nil))
      (pe_one (pe_chain op_lt op_lt (pe_un un_neg (pe_glob (v := .int lim) (by rfl) gL ⟨_, rfl⟩)) (pv 0) (pe_glob (v := .int lim) (by rfl) gL ⟨_, rfl⟩))))), ?_⟩
    refine ⟨v, rfl, v, d, rfl, sh, isWh d, rfl, ?_⟩
    cases sh with
    | int i =>
      refine ⟨lim, rfl, .int i, rfl, _, _, rfl, rfl, _, rfl, ?_⟩
      cases e : decide (-lim < i) with
      | true =>
        refine ⟨_, _, rfl, rfl, ?_⟩
        have z : isIg (.int i) = decide (i < lim) := by simp only [isIg, e, Bool.true_and]
        rw [z] at q
        exact q
      | false =>
        have z : isIg (.int i) = false := by simp only [isIg, e, Bool.false_and]
        rw [z] at q
        exact q
    | non => exact q
    | bl b => exact q
    | str x => exact q
    | lst e _ => exact q
    | dct e => exact q
    | tup e _ => exact q
end
end K02

set_option autoImplicit false
set_option maxRecDepth 100000
set_option maxHeartbeats 4000000
/-! which kind a word has -/
namespace K02
open PySem PySem.Spec PyProof.Rows L2 KX
theorem val_app (a b : List (Key × V)) (k : Key) : valV (a ++ b) k = (valV a k).or (valV b k) := by
  unfold valV
  rw [List.find?_append]
  cases a.find? (fun kv => decide (kv.1 = k)) <;> rfl
theorem val_keysK (v : V) (z : Str) : ∀ zs : List Str, valV (keysK v zs) (.inr z) = if z ∈ zs then some v else none
  | [] => rfl
  | y :: ys => by
    by_cases e : y = z
    · subst e
      rw [if_pos List.mem_cons_self]
      exact valV_pos rfl
    · have e2 : ¬ ((Sum.inr y : Key) = Sum.inr z) := fun h => e (Sum.inr.inj h)
      have := val_keysK v z ys
      rw [show keysK v (y :: ys) = ((.inr y : Key), v) :: keysK v ys from rfl, valV_neg e2, this]
      by_cases m : z ∈ ys
      · rw [if_pos m, if_pos (List.mem_cons_of_mem _ m)]
      · rw [if_neg m, if_neg fun h => (List.mem_cons.mp h).elim (fun h => e h.symm) m]
/-- the word's kind -/
def kindW (ps : List (Str × Str)) (qs rs : List Str) (z : Str) : Option Str :=
  if z ∈ ps.map (·.1) then some "array" else if z ∈ lensOf ps then some "length" else if z ∈ qs then some "position" else if z ∈ rs then some "value" else none
theorem kinds_kind (ps : List (Str × Str)) (qs rs : List Str) (z : Str) : valV (kindsOf ps qs rs) (.inr z) = (kindW ps qs rs z).map V.str := by
  unfold kindsOf kindW
  rw [val_app, val_app, val_app, val_keysK, val_keysK, val_keysK, val_keysK]
  by_cases h1 : z ∈ ps.map (·.1)
  · rw [if_pos h1, if_pos h1]; rfl
  · rw [if_neg h1, if_neg h1]
    by_cases h2 : z ∈ lensOf ps
    · rw [if_pos h2, if_pos h2]; rfl
    · rw [if_neg h2, if_neg h2]
      by_cases h3 : z ∈ qs
      · rw [if_pos h3, if_pos h3]; rfl
      · rw [if_neg h3, if_neg h3]
        by_cases h4 : z ∈ rs
        · rw [if_pos h4, if_pos h4]; rfl
        · rw [if_neg h4, if_neg h4]; rfl
/-- the word's kind is one of these -/
def inKs (o : Option Str) (ks : List Str) : Bool := match o with
  | none => false
  | some k => decide (k ∈ ks)
theorem inV_strs (k : Str) : ∀ ks : List Str, inV (.str k) (ks.map V.str) = decide (k ∈ ks)
  | [] => rfl
  | y :: ys => by
    have ih := inV_strs k ys
    unfold inV at ih ⊢
    rw [List.map_cons, List.any_cons, ih]
    by_cases e : y = k
    · subst e
      simp [eqV]
    · have e2 : ¬ k = y := fun h => e h.symm
      simp [eqV, e, e2]
theorem inV_non : ∀ ks : List Str, inV .non (ks.map V.str) = false
  | [] => rfl
  | y :: ys => by
    have ih := inV_non ys
    unfold inV at ih ⊢
    rw [List.map_cons, List.any_cons, ih]
    rfl
theorem inV_kind (o : Option Str) (ks : List Str) : inV ((o.map V.str).getD .non) (ks.map V.str) = inKs o ks := by
  cases o with
  | none => exact inV_non ks
  | some k => exact inV_strs k ks
/-- a datum is a word of one of these kinds -/
def hasK (ps : List (Str × Str)) (qs rs : List Str) (ks : List Str) : PyData → Bool
  | .str z => inKs (kindW ps qs rs z) ks
  | _ => false
abbrev sHas : Stmt := inClass (topS 30) 5
theorem scHas : FnScope ["self", "value", "kinds"] ["self", "value", "kinds"] (defScope sHas) := ⟨rfl, rfl, rfl, by decide +kernel, rfl, by decide +kernel, by decide +kernel⟩
def spHas (C : Addr) : Sp := fun vs H Q _ => ∃ (p : Addr) (v1 v2 v3 : V) (ps : List (Str × Str)) (qs rs : List Str) (v : V) (d : PyData) (k : Addr) (ks : List Str), vs = [.ref p, v, .ref k] ∧ FrameAt C H p v1 v2 v3 ps qs rs ∧ Shw H v d ∧
  H k = some (.tup (ks.map V.str)) ∧ Q (.bl (hasK ps qs rs ks d)) H
section
variable {P : Program} {w : World} {K : PySem.W.Frag} {mg : Str → Option Value} {base : Heap}
theorem ok_has {f C : Addr} {fd : FuncData} (F : Fun K "has_kind" "Frame.has_kind" sHas f fd) (T : FrTxt K mg C) (B : Free mg) : FnOk P w K mg base CX0 1 f fd ["self", "value", "kinds"] (spHas C) := by
  refine F.ok scHas (fun vs H Q E h => ?_) (fun cdv A outer s H vs Q E hr h => ?_)
  · obtain ⟨p, v1, v2, v3, ps, qs, rs, v, d, k, ks, rfl, _⟩ := h
    rfl
  · obtain ⟨p, v1, v2, v3, ps, qs, rs, v, d, k, ks, rfl, Fr, sh, hk, q⟩ := h
    have hu := hu_of hr
    refine ⟨_, pss_one (ps_ret (pe_and (pe_callB call_isi (by rfl) B.isinstance (by decide +kernel) (pa_cons (pv 1) (pa_cons (pe_bltn (v := .ty "str") (by rfl) B.str (by decide +kernel) rfl) pa_nil)))
      (pe_one (pe_cmpR op_in_seq (pe_dget1 hu (pe_fld (pv 0) rfl) (pv 1) ⟨rfl, rfl, rfl, rfl⟩) (pv 2) (by with_unfolding_all rfl))))), ?_⟩
    refine ⟨v, rfl, v, .ty "str", _, _, isStrD d, rfl, .ty _, shw_ty sh, kit_ty (kit_strD d), isStrD d, rfl, ?_⟩
    cases sh with
    | str z =>
      obtain ⟨dx, t, d, e, ob, _, _, hd⟩ := Fr.ob
      have g := DGet.k (k := Sum.inr z) hd
      refine ⟨_, rfl, p, C, dx, _, .ref e, rfl, ob, T.cl, T.no _ (by decide +kernel), lookup_zip (i := 5) (by decide +kernel) rfl, e, rfl, .inl ⟨_, .inl hd⟩, _, rfl, _, g, _, rfl, k, _, rfl, .inr (SqT.of hk), ?_, ?_, ?_⟩
      · rw [kinds_kind]
        cases kindW ps qs rs z <;> rfl
      · rw [List.all_map]
        exact List.all_eq_true.mpr fun _ _ => rfl
      · show Q (.bl (inV ((valV (kindsOf ps qs rs) (.inr z)).getD .non) (ks.map V.str))) H
        rw [kinds_kind, inV_kind]
        exact q
    | non => exact q
    | bl b => exact q
    | int i => exact q
    | lst e _ => exact q
    | dct e => exact q
    | tup e _ => exact q
end
end K02

set_option autoImplicit false
set_option maxRecDepth 100000
set_option maxHeartbeats 4000000
/-! position terms -/
namespace K02
open PySem PySem.Spec PyProof.Rows L2 KX
/-- a word that can stand in a position term -/
def posW (ps : List (Str × Str)) (qs rs own : List Str) (z : Str) : Bool := decide (z = "") || (decide (z ∈ own) || inKs (kindW ps qs rs z) ["position", "length"])
def isPos (ps : List (Str × Str)) (qs rs own : List Str) : PyData → Bool
  | .tuple [.str z, n] => isIg n && posW ps qs rs own z
  | _ => false
abbrev sPos : Stmt := topS 24
abbrev nPos : List Str := ["frame", "value", "extra", "word", "number"]
theorem scPos : FnScope nPos ["frame", "value", "extra"] (defScope sPos) := ⟨rfl, rfl, rfl, by decide +kernel, rfl, by decide +kernel, by decide +kernel⟩
/-- a tuple of texts, of the run or of the written part -/
def TxK (K : PySem.W.Frag) (H : Hp) (x : V) (zs : List Str) : Prop := ∃ b, x = .ref b ∧ SqT K H b (zs.map V.str)
theorem SqT.same {K : PySem.W.Frag} {H H' : Hp} {a : Addr} {xs : List V} (h : SqT K H a xs) (e : Same H H') : SqT K H' a xs :=
  h.elim (fun h => .inl (h.elim (fun h => .inl (e _ _ h)) fun ⟨o, h⟩ => .inr ⟨o, e _ _ h⟩)) fun h => .inr h
theorem TxK.same {K : PySem.W.Frag} {H H' : Hp} {x : V} {zs : List Str} (h : TxK K H x zs) (e : Same H H') : TxK K H' x zs := by
  obtain ⟨b, rfl, h⟩ := h
  exact ⟨b, rfl, SqT.same h e⟩
theorem Txts.k {K : PySem.W.Frag} {H : Hp} {x : V} {zs : List Str} (h : Txts H x zs) : TxK K H x zs := by
  obtain ⟨b, rfl, h⟩ := h
  exact ⟨b, rfl, SqT.of h⟩
def spPos (K : PySem.W.Frag) (C : Addr) : Sp := fun vs H Q _ => ∃ (p : Addr) (v1 v2 v3 : V) (ps : List (Str × Str)) (qs rs : List Str) (v : V) (d : PyData) (x : V) (own : List Str), vs = [.ref p, v, x] ∧ FrameAt C H p v1 v2 v3 ps qs rs ∧ Shw H v d ∧ TxK K H x own ∧
  ∀ H', Same H H' → Q (.bl (isPos ps qs rs own d)) H'
theorem pos_len {ps : List (Str × Str)} {qs rs own : List Str} {ds : List PyData} (h : ds.length ≠ 2) : isPos ps qs rs own (.tuple ds) = false := by
  match ds, h with
  | [], _ => rfl
  | [x], _ => cases x <;> rfl
  | [_, _], h => exact absurd rfl h
  | x :: _ :: _ :: _, _ => cases x <;> rfl
theorem two_of {H : Hp} {xs : List V} {ds : List PyData} (h : ShwAll H xs ds) (l : ds.length = 2) : ∃ x0 x1 d0 d1, xs = [x0, x1] ∧ ds = [d0, d1] ∧ Shw H x0 d0 ∧ Shw H x1 d1 := by
  cases h with
  | nil => cases l
  | cons a r => cases r with
    | nil => cases l
    | cons b r2 => cases r2 with
      | nil => exact ⟨_, _, _, _, rfl, rfl, a, b⟩
      | cons _ _ => simp at l
section
variable {P : Program} {w : World} {K : PySem.W.Frag} {mg : Str → Option Value} {base : Heap}
theorem ok_pos {f C : Addr} {fd : FuncData} (F : Fun K "is_position_over" "is_position_over" sPos f fd) (T : FrTxt K mg C) (B : Free mg) (I : Fnc P w K mg base CX0 2 "is_integer" ["value"] spIg)
    (O : OM P w K mg base CX0 1 C "has_kind" ["self", "value", "kinds"] (spHas C)) : FnOk P w K mg base CX0 3 f fd ["frame", "value", "extra"] (spPos K C) := by
  refine F.ok scPos (fun vs H Q E h => ?_) (fun cdv A outer s H vs Q E hr h => ?_)
  · obtain ⟨p, v1, v2, v3, ps, qs, rs, v, d, x, own, rfl, _⟩ := h
    rfl
  · obtain ⟨p, v1, v2, v3, ps, qs, rs, v, d, x, own, rfl, Fr, sh, tx, q⟩ := h
    refine ⟨_, pss_cons (ps_if (PW.pt (pw_or (pt_not (pt_val (pe_callB call_isi (by rfl) B.isinstance (by decide +kernel) (pa_cons (pv 1) (pa_cons (pe_bltn (v := .ty "tuple") (by rfl) B.tuple (by decide +kernel) rfl) pa_nil)))))
          (pw_or1 (pt_cmpR op_ne (pe_callB call_len_seq (by rfl) B.len PySem.boot_len (pa_cons (pv 1) pa_nil)) pe_int (nomark _)))))
        (pss_one (ps_ret pe_bl)) pss_nil)
      (pss_cons (ps_asg (pv 1) (pg_tup rfl (pgs_cons (pg_name (i := 3) scPos.nd rfl (Or.inl rfl)) (pgs_cons (pg_name (i := 4) scPos.nd rfl (Or.inl rfl)) pgs_nil))))
      (pss_cons (ps_if (PW.pt (pw_or (pt_not (pt_val (pe_callB call_isi (by rfl) B.isinstance (by decide +kernel) (pa_cons (pv 3) (pa_cons (pe_bltn (v := .ty "str") (by rfl) B.str (by decide +kernel) rfl) pa_nil)))))
          (pw_or1 (pt_not (pt_val (pe_fnc I hr (by omega) (by rfl) pass0 (pa_cons (pv 4) pa_nil)))))))
        (pss_one (ps_ret pe_bl)) pss_nil)
      (pss_one (ps_ret (pe_or (pe_cmpR op_eq (pv 3) pe_str (nomark _)) (pe_or (pe_cmpR op_in_seq (pv 3) (pv 2) (by with_unfolding_all rfl))
        (pe_one (pe_om (pl := _) O T.cl hr (by omega) pass0 (pv 0) (pa_cons (pv 3) (pa_cons (pe_tup (pa_cons pe_str (pa_cons pe_str pa_nil))) pa_nil)))))))))), ?_⟩
    refine ⟨v, rfl, v, .ty "tuple", _, _, isTup d, rfl, .ty _, shw_ty sh, kit_ty (kit_tup d), isTup d, rfl, ?_⟩
    cases sh with
    | non => exact q H (Same.refl H)
    | bl b => exact q H (Same.refl H)
    | int i => exact q H (Same.refl H)
    | str x => exact q H (Same.refl H)
    | lst e _ => exact q H (Same.refl H)
    | dct e => exact q H (Same.refl H)
    | @tup a xs ds e ha =>
      have ln := ShwAll.len ha
      refine ⟨.ref a, rfl, a, xs, rfl, .inr (SqT.of e), rfl, _, rfl, ite2 (fun e1 => ?_) (fun e1 => ?_)⟩
      · have h1 : ds.length ≠ 2 := fun z => by
          rw [ln, z] at e1
          revert e1
          decide +kernel
        have z := q H (Same.refl H)
        rw [pos_len h1] at z
        exact z
      · have h1 : ds.length = 2 := by
          apply Classical.byContradiction
          intro h
          refine e1 ?_
          have : ¬ (V.int (xs.length : Int) = V.int 2) := fun z => by
            injection z with z
            omega
          simp [this]
        obtain ⟨x0, x1, d0, d1, rfl, rfl, s0, s1⟩ := two_of ha h1
        refine ⟨.ref a, rfl, a, _, rfl, SqT.of e, rfl, _, _, rfl, _, _, rfl, rfl, ?_⟩
        refine ⟨x0, rfl, x0, .ty "str", _, _, isStrD d0, rfl, .ty _, shw_ty s0, kit_ty (kit_strD d0), isStrD d0, rfl, ?_⟩
        cases s0 with
        | non => exact q H (Same.refl H)
        | bl b => exact q H (Same.refl H)
        | int i => exact q H (Same.refl H)
        | lst e _ => exact q H (Same.refl H)
        | tup e _ => exact q H (Same.refl H)
        | dct e => exact q H (Same.refl H)
        | str z =>
          refine ⟨x1, rfl, x1, d1, rfl, s1, isIg d1, rfl, ?_⟩
          have zz : ∀ _ : Hp, isPos ps qs rs own (.tuple [.str z, d1]) = (isIg d1 && posW ps qs rs own z) := fun _ => by
            unfold isPos
            rfl
          cases ei : isIg d1 with
          | false =>
            have z' := q H (Same.refl H)
            rw [zz H, ei] at z'
            exact z'
          | true =>
            obtain ⟨b, rfl, eb⟩ := tx
            refine ⟨.str z, rfl, rfl, _, rfl, ite2 (fun e2 => ?_) (fun e2 => ?_)⟩
            · have z' := q H (Same.refl H)
              have : z = "" := by
                have := of_decide_eq_true e2
                injection this
              rw [zz H, ei] at z'
              unfold posW at z'
              rw [decide_eq_true this] at z'
              exact z'
            · have h2 : ¬ z = "" := fun h => e2 (decide_eq_true (by rw [h]))
              refine ⟨.str z, rfl, .ref b, rfl, b, _, rfl, (.inr eb), rfl, ?_, _, rfl, ite2 (fun e3 => ?_) (fun e3 => ?_)⟩
              · rw [List.all_map]
                exact List.all_eq_true.mpr fun _ _ => rfl
              · have z' := q H (Same.refl H)
                rw [zz H, ei] at z'
                unfold posW at z'
                have e3 : inV (.str z) (own.map V.str) = true := e3
                rw [inV_strs] at e3
                rw [decide_eq_false h2, e3] at z'
                exact z'
              · refine ⟨.ref p, rfl, ?_⟩
                obtain ⟨dx, t, d2, e4, ob, _⟩ := id Fr.ob
                refine ⟨p, dx, _, rfl, ob, lookup_zip_none (by decide +kernel), .str z, rfl, (by rw [sizeLine_eq]; decide), fun tp ntp => ?_⟩
                have sm := same_upd (p := tp) (o := .tup [.str "position", .str "length"]) ntp
                refine ⟨p, v1, v2, v3, ps, qs, rs, .str z, .str z, tp, ["position", "length"], rfl, Fr.same sm, .str z, upd_same, ?_⟩
                have z' := q _ sm
                rw [zz H, ei] at z'
                unfold posW at z'
                have e3 : ¬ inV (.str z) (own.map V.str) = true := e3
                rw [inV_strs] at e3
                rw [decide_eq_false h2, Bool.eq_false_iff.mpr e3] at z'
                exact z'
end
end K02

set_option autoImplicit false
set_option maxRecDepth 100000
set_option maxHeartbeats 4000000
/-! value terms -/
namespace K02
open PySem PySem.Spec PyProof.Rows L2 KX
def worthW (ps : List (Str × Str)) (qs rs : List Str) : PyData → Bool
  | .str z => decide (z = "") || inKs (kindW ps qs rs z) ["value"]
  | _ => false
def isVal (ps : List (Str × Str)) (qs rs own : List Str) : PyData → Bool
  | .tuple [w, n] => isIg n && worthW ps qs rs w
  | .tuple [w, x, y, n] => isIg n && (hasK ps qs rs ["array"] w && isPos ps qs rs own (.tuple [x, y]))
  | _ => false
abbrev sVal : Stmt := topS 25
abbrev nVal : List Str := ["frame", "value", "extra", "word"]
theorem scVal : FnScope nVal ["frame", "value", "extra"] (defScope sVal) := ⟨rfl, rfl, rfl, by decide +kernel, rfl, by decide +kernel, by decide +kernel⟩
def spVal (K : PySem.W.Frag) (C : Addr) : Sp := fun vs H Q _ => ∃ (p : Addr) (v1 v2 v3 : V) (ps : List (Str × Str)) (qs rs : List Str) (v : V) (d : PyData) (x : V) (own : List Str), vs = [.ref p, v, x] ∧ FrameAt C H p v1 v2 v3 ps qs rs ∧ Shw H v d ∧ TxK K H x own ∧
  ∀ H', Same H H' → Q (.bl (isVal ps qs rs own d)) H'
theorem val_len {ps : List (Str × Str)} {qs rs own : List Str} {ds : List PyData} (h : ds.length ≠ 2) (h4 : ds.length ≠ 4) : isVal ps qs rs own (.tuple ds) = false := by
  match ds, h, h4 with
  | [], _, _ => rfl
  | [x], _, _ => rfl
  | [_, _], h, _ => exact absurd rfl h
  | [_, _, _], _, _ => rfl
  | [_, _, _, _], _, h => exact absurd rfl h
  | _ :: _ :: _ :: _ :: _ :: _, _, _ => rfl
theorem four_of {H : Hp} {xs : List V} {ds : List PyData} (h : ShwAll H xs ds) (l : ds.length = 4) : ∃ x0 x1 x2 x3 d0 d1 d2 d3, xs = [x0, x1, x2, x3] ∧ ds = [d0, d1, d2, d3] ∧ Shw H x0 d0 ∧ Shw H x1 d1 ∧ Shw H x2 d2 ∧ Shw H x3 d3 := by
  cases h with
  | nil => cases l
  | cons a r => cases r with
    | nil => simp at l
    | cons b r => cases r with
      | nil => simp at l
      | cons c r => cases r with
        | nil => simp at l
        | cons d r => cases r with
          | nil => exact ⟨_, _, _, _, _, _, _, _, rfl, rfl, a, b, c, d⟩
          | cons _ _ => simp at l
theorem inV_24 (n : Nat) : inV (.int n) [.int 2, .int 4] = (decide (n = 2) || decide (n = 4)) := by
  have e : ∀ a b : Int, eqV (.int a) (.int b) = decide (a = b) := fun a b => by first | rfl | simp [eqV]
  unfold inV
  rw [List.any_cons, List.any_cons, List.any_nil, e, e, Bool.or_false]
  congr 1
  · exact decide_eq_decide.mpr ⟨fun h => by omega, fun h => by omega⟩
  · exact decide_eq_decide.mpr ⟨fun h => by omega, fun h => by omega⟩
section
variable {P : Program} {w : World} {K : PySem.W.Frag} {mg : Str → Option Value} {base : Heap}
theorem ok_val {f C : Addr} {fd : FuncData} (F : Fun K "is_value_over" "is_value_over" sVal f fd) (T : FrTxt K mg C) (B : Free mg) (I : Fnc P w K mg base CX0 2 "is_integer" ["value"] spIg)
    (O : OM P w K mg base CX0 1 C "has_kind" ["self", "value", "kinds"] (spHas C)) (PO : Fnc P w K mg base CX0 3 "is_position_over" ["frame", "value", "extra"] (spPos K C)) : FnOk P w K mg base CX0 4 f fd ["frame", "value", "extra"] (spVal K C) := by
  refine F.ok scVal (fun vs H Q E h => ?_) (fun cdv A outer s H vs Q E hr h => ?_)
  · obtain ⟨p, v1, v2, v3, ps, qs, rs, v, d, x, own, rfl, _⟩ := h
    rfl
  · obtain ⟨p, v1, v2, v3, ps, qs, rs, v, d, x, own, rfl, Fr, sh, tx, q⟩ := h
    refine ⟨_, pss_cons (ps_if (PW.pt (pw_or (pt_not (pt_val (pe_callB call_isi (by rfl) B.isinstance (by decide +kernel) (pa_cons (pv 1) (pa_cons (pe_bltn (v := .ty "tuple") (by rfl) B.tuple (by decide +kernel) rfl) pa_nil)))))
          (pw_or (pt_cmpR op_notIn_seq (pe_callB call_len_seq (by rfl) B.len PySem.boot_len (pa_cons (pv 1) pa_nil)) (pe_tup (pa_cons pe_int (pa_cons pe_int pa_nil))) (by with_unfolding_all rfl))
          (pw_or1 (pt_not (pt_val (pe_fnc I hr (by omega) (by rfl) pass0 (pa_cons (pe_ix ix_tup (pv 1) (pe_un un_neg pe_int) (fun _ _ => rfl)) pa_nil))))))))
        (pss_one (ps_ret pe_bl)) pss_nil)
      (pss_cons (ps_asg (pe_ix ix_tup (pv 1) pe_int (fun _ _ => rfl)) (pg_name (i := 3) scVal.nd rfl (Or.inl rfl)))
      (pss_cons (ps_if (pt_cmpR op_eq (pe_callB call_len_seq (by rfl) B.len PySem.boot_len (pa_cons (pv 1) pa_nil)) pe_int (nomark _))
        (pss_one (ps_ret (pe_and (pe_callB call_isi (by rfl) B.isinstance (by decide +kernel) (pa_cons (pv 3) (pa_cons (pe_bltn (v := .ty "str") (by rfl) B.str (by decide +kernel) rfl) pa_nil)))
          (pe_one (pe_or (pe_cmpR op_eq (pv 3) pe_str (nomark _)) (pe_one (pe_om (pl := _) O T.cl hr (by omega) pass0 (pv 0) (pa_cons (pv 3) (pa_cons (pe_tup (pa_cons pe_str pa_nil)) pa_nil)))))))))
        pss_nil)
      (pss_one (ps_ret (pe_and (pe_om (pl := _) O T.cl hr (by omega) pass0 (pv 0) (pa_cons (pv 3) (pa_cons (pe_tup (pa_cons pe_str pa_nil)) pa_nil)))
        (pe_one (pe_fnc PO hr (by omega) (by rfl) pass0 (pa_cons (pv 0) (pa_cons (pe_slice sl_tupA (pv 1) (po_some pe_int) (po_some pe_int)) (pa_cons (pv 2) pa_nil)))))))))), ?_⟩
    refine ⟨v, rfl, v, .ty "tuple", _, _, isTup d, rfl, .ty _, shw_ty sh, kit_ty (kit_tup d), isTup d, rfl, ?_⟩
    cases sh with
    | non => exact q H (Same.refl H)
    | bl b => exact q H (Same.refl H)
    | int i => exact q H (Same.refl H)
    | str x => exact q H (Same.refl H)
    | lst e _ => exact q H (Same.refl H)
    | dct e => exact q H (Same.refl H)
    | @tup a xs ds e ha =>
      have ln := ShwAll.len ha
      refine ⟨.ref a, rfl, a, xs, rfl, .inr (SqT.of e), (by rw [sizeLine_eq]; decide), fun tp ntp => ⟨tp, _, rfl, .inr (SqT.of upd_same), rfl, rfl, _, rfl, ?_⟩⟩
      have sm := same_upd (p := tp) (o := .tup [.int 2, .int 4]) ntp
      have e' := sm _ _ e
      have ha' := ShwAll.same ha sm
      have Fr' := Fr.same sm
      have tx' := tx.same sm
      have q' : ∀ H', Same (upd H tp (.tup [.int 2, .int 4])) H' → Q (.bl (isVal ps qs rs own (.tuple ds))) H' := fun H' s' => q H' (sm.trans s')
      generalize upd H tp (.tup [.int 2, .int 4]) = H1 at e' ha' Fr' tx' q' ⊢
      refine ite2 (fun e1 => ?_) (fun e1 => ?_)
      · have e1 : (!inV (.int (xs.length : Nat)) [.int 2, .int 4]) = true := e1
        rw [inV_24, ln] at e1
        have h2 : ds.length ≠ 2 := fun h => by rw [h] at e1; revert e1; decide
        have h4 : ds.length ≠ 4 := fun h => by rw [h] at e1; revert e1; decide
        have z := q' H1 (Same.refl H1)
        rw [val_len h2 h4] at z
        exact z
      · have e1 : ¬ (!inV (.int (xs.length : Nat)) [.int 2, .int 4]) = true := e1
        rw [inV_24, ln] at e1
        have h24 : ds.length = 2 ∨ ds.length = 4 := by
          by_cases h2 : ds.length = 2
          · exact .inl h2
          · by_cases h4 : ds.length = 4
            · exact .inr h4
            · exact absurd (by rw [decide_eq_false h2, decide_eq_false h4]; rfl) e1
        rcases h24 with h2 | h4
        · obtain ⟨x0, x1, d0, d1, rfl, rfl, s0, s1⟩ := two_of ha' h2
          refine ⟨.ref a, rfl, 1, rfl, a, _, -1, x1, rfl, rfl, SqT.of e', rfl, x1, d1, rfl, s1, isIg d1, rfl, ?_⟩
          have zz : isVal ps qs rs own (.tuple [d0, d1]) = (isIg d1 && worthW ps qs rs d0) := rfl
          cases ei : isIg d1 with
          | false =>
            have z' := q' H1 (Same.refl H1)
            rw [zz, ei] at z'
            exact z'
          | true =>
            have q2 : ∀ H', Same H1 H' → Q (.bl (worthW ps qs rs d0)) H' := fun H' s' => by
              have z' := q' H' s'
              rw [zz, ei] at z'
              exact z'
            refine ⟨.ref a, rfl, a, _, 0, x0, rfl, rfl, SqT.of e', rfl, ?_⟩
            refine ⟨.ref a, rfl, a, _, rfl, .inr (SqT.of e'), rfl, _, rfl, ?_⟩
            refine ⟨x0, rfl, x0, .ty "str", _, _, isStrD d0, rfl, .ty _, shw_ty s0, kit_ty (kit_strD d0), isStrD d0, rfl, ?_⟩
            cases s0 with
            | non => exact q2 H1 (Same.refl H1)
            | bl b => exact q2 H1 (Same.refl H1)
            | int i => exact q2 H1 (Same.refl H1)
            | lst e _ => exact q2 H1 (Same.refl H1)
            | tup e _ => exact q2 H1 (Same.refl H1)
            | dct e => exact q2 H1 (Same.refl H1)
            | str z =>
              refine ⟨.str z, rfl, rfl, _, rfl, ite2 (fun e2 => ?_) (fun e2 => ?_)⟩
              · have z' := q2 H1 (Same.refl H1)
                have : z = "" := by
                  have := of_decide_eq_true e2
                  injection this
                rw [show worthW ps qs rs (.str z) = (decide (z = "") || inKs (kindW ps qs rs z) ["value"]) from rfl] at z'
                rw [decide_eq_true this] at z'
                exact z'
              · have h2 : ¬ z = "" := fun h => e2 (decide_eq_true (by rw [h]))
                refine ⟨.ref p, rfl, ?_⟩
                obtain ⟨dx, t, d2, e4, ob, _⟩ := id Fr'.ob
                refine ⟨p, dx, _, rfl, ob, lookup_zip_none (by decide +kernel), .str z, rfl, (by rw [sizeLine_eq]; decide), fun tp ntp => ?_⟩
                have sm := same_upd (p := tp) (o := .tup [.str "value"]) ntp
                refine ⟨p, v1, v2, v3, ps, qs, rs, .str z, .str z, tp, ["value"], rfl, Fr'.same sm, .str z, upd_same, ?_⟩
                have z' := q2 _ sm
                rw [show worthW ps qs rs (.str z) = (decide (z = "") || inKs (kindW ps qs rs z) ["value"]) from rfl] at z'
                rw [decide_eq_false h2] at z'
                exact z'
        · obtain ⟨x0, x1, x2, x3, d0, d1, d2, d3, rfl, rfl, s0, s1, s2, s3⟩ := four_of ha' h4
          refine ⟨.ref a, rfl, 1, rfl, a, _, -1, x3, rfl, rfl, SqT.of e', rfl, x3, d3, rfl, s3, isIg d3, rfl, ?_⟩
          have zz : isVal ps qs rs own (.tuple [d0, d1, d2, d3]) = (isIg d3 && (hasK ps qs rs ["array"] d0 && isPos ps qs rs own (.tuple [d1, d2]))) := rfl
          cases ei : isIg d3 with
          | false =>
            have z' := q' H1 (Same.refl H1)
            rw [zz, ei] at z'
            exact z'
          | true =>
            have q2 : ∀ H', Same H1 H' → Q (.bl (hasK ps qs rs ["array"] d0 && isPos ps qs rs own (.tuple [d1, d2]))) H' := fun H' s' => by
              have z' := q' H' s'
              rw [zz, ei] at z'
              exact z'
            refine ⟨.ref a, rfl, a, _, 0, x0, rfl, rfl, SqT.of e', rfl, ?_⟩
            refine ⟨.ref a, rfl, a, _, rfl, .inr (SqT.of e'), rfl, _, rfl, ?_⟩
            refine ⟨.ref p, rfl, ?_⟩
            obtain ⟨dx, t, dd2, e4, ob, _⟩ := id Fr'.ob
            refine ⟨p, dx, _, rfl, ob, lookup_zip_none (by decide +kernel), x0, rfl, (by rw [sizeLine_eq]; decide), fun tp ntp => ?_⟩
            have sm := same_upd (p := tp) (o := .tup [.str "array"]) ntp
            refine ⟨p, v1, v2, v3, ps, qs, rs, x0, d0, tp, ["array"], rfl, Fr'.same sm, Shw.same s0 sm, upd_same, _, rfl, ?_⟩
            cases eh : hasK ps qs rs ["array"] d0 with
            | false =>
              have z' := q2 _ sm
              rw [eh] at z'
              exact z'
            | true =>
              refine ⟨.ref p, rfl, .ref a, rfl, 1, rfl, 3, rfl, a, _, rfl, SqT.of (sm _ _ e'), fun h => absurd (show (1 : Nat) = 0 from h.1) (by decide), fun _ r nr => ?_⟩
              have sm2 := same_upd (p := r) (o := .tup [x1, x2]) nr
              have s12 := sm.trans sm2
              refine ⟨x, rfl, p, v1, v2, v3, ps, qs, rs, .ref r, .tuple [d1, d2], x, own, rfl, Fr'.same s12, .tup upd_same (.cons (Shw.same s1 s12) (.cons (Shw.same s2 s12) .nil)), tx'.same s12, fun H' s' => ?_⟩
              have z' := q2 _ (s12.trans s')
              rw [eh] at z'
              exact z'
end
end K02

set_option autoImplicit false
set_option maxRecDepth 100000
set_option maxHeartbeats 4000000
/-! the law's own judges of terms -/
namespace K02
open PySem PySem.Spec PyProof.Rows L2 KX
abbrev sNum : Stmt := topS 40
theorem scNum : FnScope ["_law_value"] ["_law_value"] (defScope sNum) := ⟨rfl, rfl, rfl, by decide +kernel, rfl, by decide +kernel, by decide +kernel⟩
theorem lim_pow : (10 : Int) ^ (60 : Int).toNat = lim := by decide +kernel
section
variable {P : Program} {w : World} {K : PySem.W.Frag} {mg : Str → Option Value} {base : Heap}
theorem ok_num {f : Addr} {fd : FuncData} (F : Fun K "_law_is_number" "_law_is_number" sNum f fd) (B : Free mg) (bb : mg "bool" = none) (ba : mg "abs" = none) : FnOk P w K mg base CX0 1 f fd ["_law_value"] spIg := by
  refine F.ok scNum (fun vs H Q E h => ?_) (fun cdv A outer s H vs Q E hr h => ?_)
  · obtain ⟨v, d, rfl, _⟩ := h
    rfl
  · obtain ⟨v, d, rfl, sh, q⟩ := h
    refine ⟨_, pss_one (ps_ret (pe_and (pe_callB call_isi (by rfl) B.isinstance (by decide +kernel) (pa_cons (pv 0) (pa_cons (pe_bltn (v := .ty "int") (by rfl) B.int (by decide +kernel) rfl) pa_nil)))
      (pe_and (pe_not (pe_callB call_isi (by rfl) B.isinstance (by decide +kernel) (pa_cons (pv 0) (pa_cons (pe_bltn (v := .ty "bool") (by rfl) bb (by decide +kernel) rfl) pa_nil))))
      (pe_one (pe_cmpR op_lt (pe_callB call_abs (by rfl) ba (by decide +kernel) (pa_cons (pv 0) pa_nil)) (pe_op op_pow pe_int pe_int) (nomark _)))))), ?_⟩
    refine ⟨v, rfl, v, .ty "int", _, _, isIb d, rfl, .ty _, shw_ty sh, kit_ty (kit_int d), isIb d, rfl, ?_⟩
    cases sh with
    | int i =>
      have e : isIg (.int i) = decide ((if i < 0 then -i else i) < lim) := by
        show (decide (-lim < i) && decide (i < lim)) = _
        rw [← Bool.decide_and]
        refine decide_eq_decide.mpr ?_
        split <;> (unfold lim; omega)
      rw [e, ← lim_pow] at q
      refine ⟨_, rfl, _, .ty "bool", _, _, false, rfl, .ty _, shw_ty (.int i), kit_ty (kit_bool (.int i)), _, rfl, _, rfl, V.int i, rfl, i, rfl, _, _, rfl, rfl, ?_, _, _, rfl, rfl, q⟩
      exact ⟨by decide, by decide +kernel⟩
    | non => exact q
    | bl b => exact ⟨_, rfl, _, .ty "bool", _, _, true, rfl, .ty _, shw_ty (.bl b), kit_ty (kit_bool (.bool b)), _, rfl, _, rfl, q⟩
    | str x => exact q
    | lst e _ => exact q
    | dct e => exact q
    | tup e _ => exact q
end
end K02

set_option autoImplicit false
set_option maxRecDepth 100000
set_option maxHeartbeats 4000000
/-! the law's own judge of position terms -/
namespace K02
open PySem PySem.Spec PyProof.Rows L2 KX
def isPlc (ps : List (Str × Str)) (qs own : List Str) : PyData → Bool
  | .tuple [.str z, n] => isIg n && decide (z ∈ ((([("" : Str)] : List Str) ++ lensOf ps) ++ qs ++ own))
  | _ => false
theorem plc_len {ps : List (Str × Str)} {qs own : List Str} {ds : List PyData} (h : ds.length ≠ 2) : isPlc ps qs own (.tuple ds) = false := by
  match ds, h with
  | [], _ => rfl
  | [x], _ => cases x <;> rfl
  | [_, _], h => exact absurd rfl h
  | x :: _ :: _ :: _, _ => cases x <;> rfl
/-- what the program judges is what the law judges, where the words are all different -/
theorem plc_pos {ps : List (Str × Str)} {qs rs own : List Str} (nd : (wordsOf ps qs rs).Nodup) (d : PyData) : isPos ps qs rs own d = isPlc ps qs own d := by
  have key : ∀ z : Str, posW ps qs rs own z = decide (z ∈ ((([("" : Str)] : List Str) ++ lensOf ps) ++ qs ++ own)) := fun z => by
    unfold posW
    have e : inKs (kindW ps qs rs z) ["position", "length"] = decide (z ∈ lensOf ps ∨ z ∈ qs) := by
      unfold wordsOf at nd
      obtain ⟨_, n2, n3⟩ := List.nodup_append.mp nd
      unfold kindW
      by_cases h1 : z ∈ ps.map (·.1)
      · have hn : ¬ (z ∈ lensOf ps ∨ z ∈ qs) := fun h => by
          refine n3 z h1 z ?_ rfl
          rcases h with h | h
          · exact List.mem_append_left _ h
          · exact List.mem_append_right _ (List.mem_append_left _ h)
        rw [if_pos h1, decide_eq_false hn]
        decide +kernel
      · rw [if_neg h1]
        by_cases h2 : z ∈ lensOf ps
        · rw [if_pos h2, decide_eq_true (.inl h2)]
          decide +kernel
        · rw [if_neg h2]
          by_cases h3 : z ∈ qs
          · rw [if_pos h3, decide_eq_true (.inr h3)]
            decide +kernel
          · rw [if_neg h3, decide_eq_false (fun h => h.elim h2 h3)]
            by_cases h4 : z ∈ rs
            · rw [if_pos h4]
              decide +kernel
            · rw [if_neg h4]
              rfl
    rw [e, ← Bool.decide_or, ← Bool.decide_or]
    refine decide_eq_decide.mpr ?_
    simp only [List.mem_append, List.mem_singleton]
    constructor
    · rintro (h | h | h | h)
      · exact .inl (.inl (.inl h))
      · exact .inr h
      · exact .inl (.inl (.inr h))
      · exact .inl (.inr h)
    · rintro (((h | h) | h) | h)
      · exact .inl h
      · exact .inr (.inr (.inl h))
      · exact .inr (.inr (.inr h))
      · exact .inr (.inl h)
  cases d with
  | tuple ds =>
    by_cases h : ds.length = 2
    · match ds, h with
      | [x, n], _ =>
        cases x with
        | str z => show (isIg n && posW ps qs rs own z) = (isIg n && _); rw [key]
        | _ => rfl
    · rw [pos_len h, plc_len h]
  | _ => rfl
abbrev sPlc : Stmt := topS 41
abbrev nPlc : List Str := ["_law_parts_here", "_law_value", "_law_mine"]
theorem scPlc : FnScope nPlc nPlc (defScope sPlc) := ⟨rfl, rfl, rfl, by decide +kernel, rfl, by decide +kernel, by decide +kernel⟩
def spPlc : Sp := fun vs H Q _ => ∃ (a : Addr) (v1 v2 v3 : V) (ps : List (Str × Str)) (qs rs : List Str) (v : V) (d : PyData) (x : V) (own : List Str), vs = [.ref a, v, x] ∧ H a = some (.lst [v1, v2, v3]) ∧ Arr H v1 ps ∧ Txts H v2 qs ∧ Txts H v3 rs ∧
  Shw H v d ∧ Txts H x own ∧ ps.length ≤ 1000 ∧ qs.length ≤ 1000 ∧ own.length ≤ 1000 ∧ ∀ H', Same H H' → Q (.bl (isPlc ps qs own d)) H'
section
variable {P : Program} {w : World} {K : PySem.W.Frag} {mg : Str → Option Value} {base : Heap}
theorem ok_plc {f : Addr} {fd : FuncData} (F : Fun K "_law_is_place" "_law_is_place" sPlc f fd) (L : Fnc P w K mg base CX0 1 "_law_lengths" ["_law_parts_here"] spLens2)
    (N : Fnc P w K mg base CX0 1 "_law_is_number" ["_law_value"] spIg) (B : Free mg) : FnOk P w K mg base CX0 2 f fd nPlc spPlc := by
  refine F.ok scPlc (fun vs H Q E h => ?_) (fun cdv A outer s H vs Q E hr h => ?_)
  · obtain ⟨a, v1, v2, v3, ps, qs, rs, v, d, x, own, rfl, _⟩ := h
    rfl
  · obtain ⟨a, v1, v2, v3, ps, qs, rs, v, d, x, own, rfl, ha, sh1, t2, t3, sh, tx, few1, few2, few3, q⟩ := h
    refine ⟨_, pss_cons (ps_if (PW.pt (pw_or (pt_not (pt_val (pe_callB call_isi (by rfl) B.isinstance (by decide +kernel) (pa_cons (pv 1) (pa_cons (pe_bltn (v := .ty "tuple") (by rfl) B.tuple (by decide +kernel) rfl) pa_nil)))))
          (pw_or (pt_cmpR op_ne (pe_callB call_len_seq (by rfl) B.len PySem.boot_len (pa_cons (pv 1) pa_nil)) pe_int (nomark _))
          (pw_or (pt_not (pt_val (pe_callB call_isi (by rfl) B.isinstance (by decide +kernel) (pa_cons (pe_ix ix_tup (pv 1) pe_int (fun _ _ => rfl)) (pa_cons (pe_bltn (v := .ty "str") (by rfl) B.str (by decide +kernel) rfl) pa_nil)))))
          (pw_or1 (pt_not (pt_val (pe_fnc N hr (by omega) (by rfl) pass0 (pa_cons (pe_ix ix_tup (pv 1) pe_int (fun _ _ => rfl)) pa_nil)))))))))
        (pss_one (ps_ret pe_bl)) pss_nil)
      (pss_one (ps_ret (pe_cmpR op_in_seq (pe_ix ix_tup (pv 1) pe_int (fun _ _ => rfl))
        (pe_op op_cat (pe_op op_cat (pe_op op_cat (pe_lst (pa_cons pe_str pa_nil)) (pe_fnc L hr (by omega) (by rfl) pass0 (pa_cons (pv 0) pa_nil)))
          (pe_callTy call_list_of (by rfl) B.list (by decide +kernel) (pa_cons (pe_ix ix_list (pv 0) pe_int (fun _ _ => rfl)) pa_nil)))
          (pe_callTy call_list_of (by rfl) B.list (by decide +kernel) (pa_cons (pv 2) pa_nil))) (by with_unfolding_all rfl)))), ?_⟩
    refine ⟨v, rfl, v, .ty "tuple", _, _, isTup d, rfl, .ty _, shw_ty sh, kit_ty (kit_tup d), isTup d, rfl, ?_⟩
    cases sh with
    | non => exact q H (Same.refl H)
    | bl b => exact q H (Same.refl H)
    | int i => exact q H (Same.refl H)
    | str x => exact q H (Same.refl H)
    | lst e _ => exact q H (Same.refl H)
    | dct e => exact q H (Same.refl H)
    | @tup b xs ds e hb =>
      have ln := ShwAll.len hb
      refine ⟨.ref b, rfl, b, xs, rfl, .inr (SqT.of e), rfl, _, rfl, ite2 (fun e1 => ?_) (fun e1 => ?_)⟩
      · have h1 : ds.length ≠ 2 := fun z => by
          rw [ln, z] at e1
          revert e1
          decide +kernel
        have z := q H (Same.refl H)
        rw [plc_len h1] at z
        exact z
      · have h1 : ds.length = 2 := by
          apply Classical.byContradiction
          intro h
          refine e1 ?_
          have : ¬ (V.int (xs.length : Int) = V.int 2) := fun z => by
            injection z with z
            omega
          simp [this]
        obtain ⟨x0, x1, d0, d1, rfl, rfl, s0, s1⟩ := two_of hb h1
        refine ⟨.ref b, rfl, b, _, 0, x0, rfl, rfl, SqT.of e, rfl, x0, .ty "str", _, _, isStrD d0, rfl, .ty _, shw_ty s0, kit_ty (kit_strD d0), isStrD d0, rfl, ?_⟩
        cases s0 with
        | non => exact q H (Same.refl H)
        | bl b => exact q H (Same.refl H)
        | int i => exact q H (Same.refl H)
        | lst e _ => exact q H (Same.refl H)
        | tup e _ => exact q H (Same.refl H)
        | dct e => exact q H (Same.refl H)
        | str z =>
          refine ⟨.ref b, rfl, b, _, 1, x1, rfl, rfl, SqT.of e, rfl, x1, d1, rfl, s1, isIg d1, rfl, ?_⟩
          have zz : isPlc ps qs own (.tuple [.str z, d1]) = (isIg d1 && decide (z ∈ ((([("" : Str)] : List Str) ++ lensOf ps) ++ qs ++ own))) := rfl
          cases ei : isIg d1 with
          | false =>
            have z' := q H (Same.refl H)
            rw [zz, ei] at z'
            exact z'
          | true =>
            have q2 : ∀ H', Same H H' → Q (.bl (decide (z ∈ ((([("" : Str)] : List Str) ++ lensOf ps) ++ qs ++ own)))) H' := fun H' s' => by
              have z' := q H' s'
              rw [zz, ei] at z'
              exact z'
            have ll := lensOf_le ps
            obtain ⟨b1, ys, rfl, _, _, _⟩ := id (arr_get sh1)
            obtain ⟨a2, rfl, e2⟩ := t2
            obtain ⟨a3, rfl, e3⟩ := t3
            obtain ⟨ax, rfl, ex⟩ := tx
            refine ⟨.ref b, rfl, b, _, 0, .str z, rfl, rfl, SqT.of e, rfl, ?_⟩
            refine ⟨(by rw [sizeLine_eq]; decide), fun r0 n0 => ⟨.ref a, rfl, ?_⟩⟩
            have w0 := same_upd (p := r0) (o := .lst [.str ""]) n0
            have g0 : (upd H r0 (.lst [.str ""])) r0 = some (.lst [.str ""]) := upd_same
            generalize upd H r0 (.lst [.str ""]) = H1 at w0 g0 ⊢
            refine ⟨a, .ref b1, .ref a2, .ref a3, ps, rfl, w0 _ _ ha, Shw.same sh1 w0, few1, fun l H2 s2 e4 => ?_⟩
            refine ⟨r0, l, _, _, rfl, rfl, s2 _ _ g0, e4, ?_, fun r1 n1 => ?_⟩
            · simp only [List.length_map, List.length_singleton, List.length_cons, List.length_nil, sizeLine_eq]
              omega
            have w1 := w0.trans (s2.trans (same_upd (p := r1) (o := .lst ([.str ""] ++ (lensOf ps).map V.str)) n1))
            have g1 : (upd H2 r1 (.lst ([.str ""] ++ (lensOf ps).map V.str))) r1 = some (.lst ([.str ""] ++ (lensOf ps).map V.str)) := upd_same
            generalize upd H2 r1 (.lst ([.str ""] ++ (lensOf ps).map V.str)) = H3 at w1 g1 ⊢
            refine ⟨.ref a, rfl, a, _, 1, .ref a2, rfl, rfl, SqL.of (w1 _ _ ha), rfl, a2, _, rfl, .inr (SqT.of (w1 _ _ e2)), fun l2 n2 => ?_⟩
            have w2 := w1.trans (same_upd (p := l2) (o := .lst (qs.map V.str)) n2)
            refine ⟨r1, l2, _, _, rfl, rfl, same_upd n2 _ _ g1, upd_same, ?_, fun r2 n3 => ?_⟩
            · simp only [List.length_map, List.length_append, List.length_singleton, List.length_cons, List.length_nil, sizeLine_eq]
              omega
            have w3 := w2.trans (same_upd (p := r2) (o := .lst (([.str ""] ++ (lensOf ps).map V.str) ++ qs.map V.str)) n3)
            have g3 : (upd (upd H3 l2 (.lst (qs.map V.str))) r2 (.lst (([.str ""] ++ (lensOf ps).map V.str) ++ qs.map V.str))) r2 = some (.lst (([.str ""] ++ (lensOf ps).map V.str) ++ qs.map V.str)) := upd_same
            generalize upd (upd H3 l2 (.lst (qs.map V.str))) r2 (.lst (([.str ""] ++ (lensOf ps).map V.str) ++ qs.map V.str)) = H4 at w3 g3 ⊢
            refine ⟨.ref ax, rfl, ax, _, rfl, .inr (SqT.of (w3 _ _ ex)), fun l3 n4 => ?_⟩
            have w4 := w3.trans (same_upd (p := l3) (o := .lst (own.map V.str)) n4)
            refine ⟨r2, l3, _, _, rfl, rfl, same_upd n4 _ _ g3, upd_same, ?_, fun r3 n5 => ?_⟩
            · simp only [List.length_map, List.length_append, List.length_singleton, List.length_cons, List.length_nil, sizeLine_eq]
              omega
            have w5 := w4.trans (same_upd (p := r3) (o := .lst ((([.str ""] ++ (lensOf ps).map V.str) ++ qs.map V.str) ++ own.map V.str)) n5)
            have eL : ((([V.str ""] ++ (lensOf ps).map V.str) ++ qs.map V.str) ++ own.map V.str) = ((([("" : Str)] : List Str) ++ lensOf ps) ++ qs ++ own).map V.str := by
              simp only [List.map_append, List.map_cons, List.map_nil]
            refine ⟨r3, _, rfl, .inl (SqL.of upd_same), rfl, ?_, ?_⟩
            · rw [eL, List.all_map]
              exact List.all_eq_true.mpr fun _ _ => rfl
            · have z' := q2 _ w5
              rw [← inV_strs, ← eL] at z'
              exact z'
end
end K02

set_option autoImplicit false
set_option maxRecDepth 100000
set_option maxHeartbeats 4000000
/-! the law's own judge of value terms -/
namespace K02
open PySem PySem.Spec PyProof.Rows L2 KX
def isWor (ps : List (Str × Str)) (qs rs own : List Str) : PyData → Bool
  | .tuple [.str z, n] => decide (z ∈ [("" : Str)] ++ rs) && isIg n
  | .tuple [.str z, x, y, n] => decide (z ∈ ps.map (·.1)) && (isPlc ps qs own (.tuple [x, y]) && isIg n)
  | _ => false
theorem wor_len {ps : List (Str × Str)} {qs rs own : List Str} {ds : List PyData} (h : ds.length ≠ 2) (h4 : ds.length ≠ 4) : isWor ps qs rs own (.tuple ds) = false := by
  match ds, h, h4 with
  | [], _, _ => rfl
  | [x], _, _ => cases x <;> rfl
  | [_, _], h, _ => exact absurd rfl h
  | [x, _, _], _, _ => cases x <;> rfl
  | [_, _, _, _], _, h => exact absurd rfl h
  | x :: _ :: _ :: _ :: _ :: _, _, _ => cases x <;> rfl
/-- what the program judges is what the law judges, where the words are all different -/
theorem wor_val {ps : List (Str × Str)} {qs rs own : List Str} (nd : (wordsOf ps qs rs).Nodup) (d : PyData) : isVal ps qs rs own d = isWor ps qs rs own d := by
  have nd0 := nd
  unfold wordsOf at nd
  obtain ⟨_, n2, n3⟩ := List.nodup_append.mp nd
  obtain ⟨_, n4, n5⟩ := List.nodup_append.mp n2
  obtain ⟨_, _, n6⟩ := List.nodup_append.mp n4
  have kv : ∀ z : Str, inKs (kindW ps qs rs z) ["value"] = decide (z ∈ rs) := fun z => by
    unfold kindW
    by_cases h1 : z ∈ ps.map (·.1)
    · have hn : ¬ z ∈ rs := fun h => n3 z h1 z (List.mem_append_right _ (List.mem_append_right _ h)) rfl
      rw [if_pos h1, decide_eq_false hn]
      decide +kernel
    · rw [if_neg h1]
      by_cases h2 : z ∈ lensOf ps
      · have hn : ¬ z ∈ rs := fun h => n5 z h2 z (List.mem_append_right _ h) rfl
        rw [if_pos h2, decide_eq_false hn]
        decide +kernel
      · rw [if_neg h2]
        by_cases h3 : z ∈ qs
        · have hn : ¬ z ∈ rs := fun h => n6 z h3 z h rfl
          rw [if_pos h3, decide_eq_false hn]
          decide +kernel
        · rw [if_neg h3]
          by_cases h4 : z ∈ rs
          · rw [if_pos h4, decide_eq_true h4]
            decide +kernel
          · rw [if_neg h4, decide_eq_false h4]
            rfl
  have ka : ∀ z : Str, inKs (kindW ps qs rs z) ["array"] = decide (z ∈ ps.map (·.1)) := fun z => by
    unfold kindW
    by_cases h1 : z ∈ ps.map (·.1)
    · rw [if_pos h1, decide_eq_true h1]
      decide +kernel
    · rw [if_neg h1, decide_eq_false h1]
      by_cases h2 : z ∈ lensOf ps
      · rw [if_pos h2]; decide +kernel
      · rw [if_neg h2]
        by_cases h3 : z ∈ qs
        · rw [if_pos h3]; decide +kernel
        · rw [if_neg h3]
          by_cases h4 : z ∈ rs
          · rw [if_pos h4]; decide +kernel
          · rw [if_neg h4]; rfl
  cases d with
  | tuple ds =>
    by_cases h : ds.length = 2
    · match ds, h with
      | [x, n], _ =>
        cases x with
        | str z =>
          show (isIg n && (decide (z = "") || inKs (kindW ps qs rs z) ["value"])) = (decide (z ∈ [("" : Str)] ++ rs) && isIg n)
          rw [kv, ← Bool.decide_or, Bool.and_comm]
          congr 1
          exact decide_eq_decide.mpr (by simp only [List.mem_append, List.mem_singleton])
        | _ => show (isIg n && false) = false; rw [Bool.and_false]
    · by_cases h4 : ds.length = 4
      · match ds, h4 with
        | [x, y, u, n], _ =>
          cases x with
          | str z =>
            show (isIg n && (inKs (kindW ps qs rs z) ["array"] && isPos ps qs rs own (.tuple [y, u]))) = (decide (z ∈ ps.map (·.1)) && (isPlc ps qs own (.tuple [y, u]) && isIg n))
            rw [ka, plc_pos nd0, Bool.and_comm, Bool.and_assoc]
          | _ => show (isIg n && (false && _)) = false; rw [Bool.false_and, Bool.and_false]
      · rw [val_len h h4, wor_len h h4]
  | _ => rfl
abbrev sWor : Stmt := topS 42
abbrev nWor : List Str := ["_law_parts_here", "_law_value", "_law_mine", "_law_name", "_law_length"]
theorem scWor : FnScope nWor ["_law_parts_here", "_law_value", "_law_mine"] (defScope sWor) := ⟨rfl, rfl, rfl, by decide +kernel, rfl, by decide +kernel, by decide +kernel⟩
def spWor : Sp := fun vs H Q _ => ∃ (a : Addr) (v1 v2 v3 : V) (ps : List (Str × Str)) (qs rs : List Str) (v : V) (d : PyData) (x : V) (own : List Str), vs = [.ref a, v, x] ∧ H a = some (.lst [v1, v2, v3]) ∧ Arr H v1 ps ∧ Txts H v2 qs ∧ Txts H v3 rs ∧
  Shw H v d ∧ Txts H x own ∧ ps.length ≤ 1000 ∧ qs.length ≤ 1000 ∧ rs.length ≤ 1000 ∧ own.length ≤ 1000 ∧ ∀ H', Same H H' → Q (.bl (isWor ps qs rs own d)) H'
section
variable {P : Program} {w : World} {K : PySem.W.Frag} {mg : Str → Option Value} {base : Heap}
theorem ok_wor {f : Addr} {fd : FuncData} (F : Fun K "_law_is_worth" "_law_is_worth" sWor f fd) (Pl : Fnc P w K mg base CX0 2 "_law_is_place" nPlc spPlc)
    (N : Fnc P w K mg base CX0 1 "_law_is_number" ["_law_value"] spIg) (B : Free mg) : FnOk P w K mg base CX0 3 f fd ["_law_parts_here", "_law_value", "_law_mine"] spWor := by
  refine F.ok scWor (fun vs H Q E h => ?_) (fun cdv A outer s H vs Q E hr h => ?_)
  · obtain ⟨a, v1, v2, v3, ps, qs, rs, v, d, x, own, rfl, _⟩ := h
    rfl
  · obtain ⟨a, v1, v2, v3, ps, qs, rs, v, d, x, own, rfl, ha, sh1, t2, t3, sh, tx, few1, few2, few3, few4, q⟩ := h
    refine ⟨_, pss_cons (ps_if (PW.pt (pw_or (pt_not (pt_val (pe_callB call_isi (by rfl) B.isinstance (by decide +kernel) (pa_cons (pv 1) (pa_cons (pe_bltn (v := .ty "tuple") (by rfl) B.tuple (by decide +kernel) rfl) pa_nil)))))
          (pw_or (pt_cmpR op_notIn_seq (pe_callB call_len_seq (by rfl) B.len PySem.boot_len (pa_cons (pv 1) pa_nil)) (pe_tup (pa_cons pe_int (pa_cons pe_int pa_nil))) (by with_unfolding_all rfl))
          (pw_or1 (pt_not (pt_val (pe_callB call_isi (by rfl) B.isinstance (by decide +kernel) (pa_cons (pe_ix ix_tup (pv 1) pe_int (fun _ _ => rfl)) (pa_cons (pe_bltn (v := .ty "str") (by rfl) B.str (by decide +kernel) rfl) pa_nil)))))))))
        (pss_one (ps_ret pe_bl)) pss_nil)
      (pss_cons (ps_if (pt_cmpR op_eq (pe_callB call_len_seq (by rfl) B.len PySem.boot_len (pa_cons (pv 1) pa_nil)) pe_int (nomark _))
        (pss_one (ps_ret (pe_and (pe_cmpR op_in_seq (pe_ix ix_tup (pv 1) pe_int (fun _ _ => rfl))
            (pe_op op_cat (pe_lst (pa_cons pe_str pa_nil)) (pe_callTy call_list_of (by rfl) B.list (by decide +kernel) (pa_cons (pe_ix ix_list (pv 0) pe_int (fun _ _ => rfl)) pa_nil))) (by with_unfolding_all rfl))
          (pe_one (pe_fnc N hr (by omega) (by rfl) pass0 (pa_cons (pe_ix ix_tup (pv 1) pe_int (fun _ _ => rfl)) pa_nil))))))
        pss_nil)
      (pss_cons (ps_if (pt_cmpR op_notIn_seq (pe_ix ix_tup (pv 1) pe_int (fun _ _ => rfl))
          (pe_lc (own := [("_law_name", 3), ("_law_length", 4)]) (g := gTup K 2 (gCons (gName 3) (gCons (gName 4) gNil))) (tt := tYes) rfl scWor.nd (pi_tup (pe_ix ix_list (pv 0) pe_int (fun _ _ => rfl))) (blkOk_by (N := nWor) (sc := defScope sWor) (by decide +kernel))
            (fun _ _ _ _ _ => pg_tup rfl (pgs_cons (pg_name (i := 3) scWor.nd rfl (Or.inl rfl) (Or.inr rfl)) (pgs_cons (pg_name (i := 4) scWor.nd rfl (Or.inl rfl) (Or.inr rfl)) pgs_nil))) (fun _ _ _ _ _ => pts_nil) (fun _ _ _ _ _ => pv 3)) (by with_unfolding_all rfl))
        (pss_one (ps_ret pe_bl)) pss_nil)
      (pss_one (ps_ret (pe_and (pe_fnc Pl hr (by omega) (by rfl) pass0 (pa_cons (pv 0) (pa_cons (pe_slice sl_tupA (pv 1) (po_some pe_int) (po_some pe_int)) (pa_cons (pv 2) pa_nil))))
        (pe_one (pe_fnc N hr (by omega) (by rfl) pass0 (pa_cons (pe_ix ix_tup (pv 1) pe_int (fun _ _ => rfl)) pa_nil)))))))), ?_⟩
    refine ⟨v, rfl, v, .ty "tuple", _, _, isTup d, rfl, .ty _, shw_ty sh, kit_ty (kit_tup d), isTup d, rfl, ?_⟩
    cases sh with
    | non => exact q H (Same.refl H)
    | bl b => exact q H (Same.refl H)
    | int i => exact q H (Same.refl H)
    | str x => exact q H (Same.refl H)
    | lst e _ => exact q H (Same.refl H)
    | dct e => exact q H (Same.refl H)
    | @tup b xs ds e hb =>
      have ln := ShwAll.len hb
      refine ⟨.ref b, rfl, b, xs, rfl, .inr (SqT.of e), (by rw [sizeLine_eq]; decide), fun tp ntp => ⟨tp, _, rfl, .inr (SqT.of upd_same), rfl, rfl, _, rfl, ?_⟩⟩
      have sm := same_upd (p := tp) (o := .tup [.int 2, .int 4]) ntp
      have e' := sm _ _ e
      have hb' := ShwAll.same hb sm
      have ha' := sm _ _ ha
      have sh1' := Shw.same sh1 sm
      have t2' := t2.same sm
      have t3' := t3.same sm
      have tx' := tx.same sm
      have q' : ∀ H', Same (upd H tp (.tup [.int 2, .int 4])) H' → Q (.bl (isWor ps qs rs own (.tuple ds))) H' := fun H' s' => q H' (sm.trans s')
      generalize upd H tp (.tup [.int 2, .int 4]) = H1 at e' hb' ha' sh1' t2' t3' tx' q' ⊢
      refine ite2 (fun e1 => ?_) (fun e1 => ?_)
      · have e1 : (!inV (.int (xs.length : Nat)) [.int 2, .int 4]) = true := e1
        rw [inV_24, ln] at e1
        have h2 : ds.length ≠ 2 := fun h => by rw [h] at e1; revert e1; decide
        have h4 : ds.length ≠ 4 := fun h => by rw [h] at e1; revert e1; decide
        have z := q' H1 (Same.refl H1)
        rw [wor_len h2 h4] at z
        exact z
      · have e1 : ¬ (!inV (.int (xs.length : Nat)) [.int 2, .int 4]) = true := e1
        rw [inV_24, ln] at e1
        have h24 : ds.length = 2 ∨ ds.length = 4 := by
          by_cases h2 : ds.length = 2
          · exact .inl h2
          · by_cases h4 : ds.length = 4
            · exact .inr h4
            · exact absurd (by rw [decide_eq_false h2, decide_eq_false h4]; rfl) e1
        obtain ⟨b1, ys, rfl, e5, ln5, at_⟩ := id (arr_get sh1')
        obtain ⟨a3, rfl, e3⟩ := id t3'
        rcases h24 with h2 | h4
        · obtain ⟨x0, x1, d0, d1, rfl, rfl, s0, s1⟩ := two_of hb' h2
          refine ⟨.ref b, rfl, b, _, 0, x0, rfl, rfl, SqT.of e', rfl, x0, .ty "str", _, _, isStrD d0, rfl, .ty _, shw_ty s0, kit_ty (kit_strD d0), isStrD d0, rfl, ?_⟩
          cases s0 with
          | non => exact q' H1 (Same.refl H1)
          | bl b => exact q' H1 (Same.refl H1)
          | int i => exact q' H1 (Same.refl H1)
          | lst e _ => exact q' H1 (Same.refl H1)
          | tup e _ => exact q' H1 (Same.refl H1)
          | dct e => exact q' H1 (Same.refl H1)
          | str z =>
            refine ⟨.ref b, rfl, b, _, rfl, .inr (SqT.of e'), rfl, _, rfl, ?_⟩
            refine ⟨.ref b, rfl, b, _, 0, .str z, rfl, rfl, SqT.of e', rfl, ?_⟩
            refine ⟨(by rw [sizeLine_eq]; decide), fun r0 n0 => ?_⟩
            have w0 := same_upd (p := r0) (o := .lst [.str ""]) n0
            have g0 : (upd H1 r0 (.lst [.str ""])) r0 = some (.lst [.str ""]) := upd_same
            generalize upd H1 r0 (.lst [.str ""]) = H2 at w0 g0 ⊢
            refine ⟨.ref a, rfl, a, _, 2, .ref a3, rfl, rfl, SqL.of (w0 _ _ ha'), rfl, a3, _, rfl, .inr (SqT.of (w0 _ _ e3)), fun l2 n2 => ?_⟩
            have w2 := w0.trans (same_upd (p := l2) (o := .lst (rs.map V.str)) n2)
            refine ⟨r0, l2, _, _, rfl, rfl, same_upd n2 _ _ g0, upd_same, ?_, fun r2 n3 => ?_⟩
            · simp only [List.length_map, List.length_singleton, List.length_cons, List.length_nil, sizeLine_eq]
              omega
            have w3 := w2.trans (same_upd (p := r2) (o := .lst ([.str ""] ++ rs.map V.str)) n3)
            have eL : ([V.str ""] ++ rs.map V.str) = ([("" : Str)] ++ rs).map V.str := by
              simp only [List.map_append, List.map_cons, List.map_nil]
            refine ⟨r2, _, rfl, .inl (SqL.of upd_same), rfl, ?_, _, rfl, ?_⟩
            · rw [eL, List.all_map]
              exact List.all_eq_true.mpr fun _ _ => rfl
            · have zz : isWor ps qs rs own (.tuple [.str z, d1]) = (decide (z ∈ [("" : Str)] ++ rs) && isIg d1) := rfl
              show if inV (.str z) ([V.str ""] ++ rs.map V.str) = true then _ else _
              rw [eL, inV_strs]
              refine ite2 (fun e6 => ?_) (fun e6 => ?_)
              · refine ⟨.ref b, rfl, b, _, 1, x1, rfl, rfl, SqT.of (w3 _ _ e'), rfl, x1, d1, rfl, Shw.same s1 w3, ?_⟩
                have z' := q' _ w3
                rw [zz, e6, Bool.true_and] at z'
                exact z'
              · have z' := q' _ w3
                rw [zz, Bool.eq_false_iff.mpr e6, Bool.false_and] at z'
                exact z'
        · obtain ⟨x0, x1, x2, x3, d0, d1, d2, d3, rfl, rfl, s0, s1, s2, s3⟩ := four_of hb' h4
          refine ⟨.ref b, rfl, b, _, 0, x0, rfl, rfl, SqT.of e', rfl, x0, .ty "str", _, _, isStrD d0, rfl, .ty _, shw_ty s0, kit_ty (kit_strD d0), isStrD d0, rfl, ?_⟩
          cases s0 with
          | non => exact q' H1 (Same.refl H1)
          | bl b => exact q' H1 (Same.refl H1)
          | int i => exact q' H1 (Same.refl H1)
          | lst e _ => exact q' H1 (Same.refl H1)
          | tup e _ => exact q' H1 (Same.refl H1)
          | dct e => exact q' H1 (Same.refl H1)
          | str z =>
            have zz : isWor ps qs rs own (.tuple [.str z, d1, d2, d3]) = (decide (z ∈ ps.map (·.1)) && (isPlc ps qs own (.tuple [d1, d2]) && isIg d3)) := rfl
            refine ⟨.ref b, rfl, b, _, rfl, .inr (SqT.of e'), rfl, _, rfl, ?_⟩
            refine ⟨.ref b, rfl, b, _, 0, .str z, rfl, rfl, SqT.of e', rfl, ?_⟩
            refine ⟨.ref a, rfl, a, _, 0, .ref b1, rfl, rfl, SqL.of ha', rfl, b1, rfl, ⟨_, SqT.of e5⟩, fun D nD => ?_⟩
            refine lc_tup (K := K) (a := b1) (xs := ys) (fun m H' => Same H1 H' ∧ H' D = some (.lst ((ps.take m).map fun p => V.str p.1))) ⟨same_upd nD, upd_same⟩ (fun m H' _ hP => SqT.of (hP.1 _ _ e5)) (fun m x H' hm hP => ?_) (fun H' hP => ?_)
            · obtain ⟨w1, g1⟩ := hP
              obtain ⟨p, c, hp, rfl, eb⟩ := at_ m x hm
              refine ⟨c, _, rfl, SqT.of (w1 _ _ eb), rfl, _, _, rfl, _, _, rfl, rfl, rfl, _, rfl, _, g1, ?_, fun c o z => ?_, ?_⟩
              · rw [List.length_map, List.length_take, sizeLine_eq]
                omega
              · rw [upd_ne (ne_of_none z nD)]
                exact w1 _ _ z
              · rw [upd_same, List.take_add_one, hp, List.map_append]
                rfl
            · obtain ⟨w1, g1⟩ := hP
              rw [ln5, List.take_length] at g1
              have eL : (ps.map fun p => V.str p.1) = (ps.map (·.1)).map V.str := by rw [List.map_map]; rfl
              rw [eL] at g1
              refine ⟨D, _, rfl, .inl (SqL.of g1), rfl, ?_, _, rfl, ?_⟩
              · rw [List.all_map]
                exact List.all_eq_true.mpr fun _ _ => rfl
              show if (!inV (.str z) ((ps.map (·.1)).map V.str)) = true then _ else _
              rw [inV_strs]
              cases e6 : decide (z ∈ ps.map (·.1)) with
              | false =>
                have z' := q' _ w1
                rw [zz, e6, Bool.false_and] at z'
                exact z'
              | true =>
                have q2 : ∀ H4, Same H' H4 → Q (.bl (isPlc ps qs own (.tuple [d1, d2]) && isIg d3)) H4 := fun H4 s4 => by
                  have z' := q' H4 (w1.trans s4)
                  rw [zz, e6, Bool.true_and] at z'
                  exact z'
                refine ⟨.ref a, rfl, .ref b, rfl, 1, rfl, 3, rfl, b, _, rfl, SqT.of (w1 _ _ e'), fun h => absurd (show (1 : Nat) = 0 from h.1) (by decide), fun _ r nr => ?_⟩
                have sm2 := same_upd (p := r) (o := .tup [x1, x2]) nr
                have s12 := w1.trans sm2
                refine ⟨x, rfl, a, .ref b1, v2, .ref a3, ps, qs, rs, .ref r, .tuple [d1, d2], x, own, rfl, s12 _ _ ha', Shw.same sh1' s12, t2'.same s12, t3'.same s12, .tup upd_same (.cons (Shw.same s1 s12) (.cons (Shw.same s2 s12) .nil)), tx'.same s12, few1, few2, few4, fun H5 s5 => ⟨_, rfl, ?_⟩⟩
                have w5 := s12.trans s5
                refine ite2 (fun e7 => ?_) (fun e7 => ?_)
                · refine ⟨.ref b, rfl, b, _, 3, x3, rfl, rfl, SqT.of (w5 _ _ e'), rfl, x3, d3, rfl, Shw.same s3 w5, ?_⟩
                  have z' := q2 _ (sm2.trans s5)
                  rw [e7, Bool.true_and] at z'
                  exact z'
                · have z' := q2 _ (sm2.trans s5)
                  rw [Bool.eq_false_iff.mpr e7, Bool.false_and] at z'
                  exact z'
end
end K02

set_option autoImplicit false
set_option maxRecDepth 100000
set_option maxHeartbeats 4000000
/-! whether parts are let -/
namespace K02
open PySem PySem.Spec PyProof.Rows L2 KX
abbrev sLet : Stmt := topS 46
abbrev nLet : List Str := ["_law_parts_here", "_law_names"]
theorem scLet : FnScope nLet ["_law_parts_here"] (defScope sLet) := ⟨rfl, rfl, rfl, by decide +kernel, rfl, by decide +kernel, by decide +kernel⟩
def spLet : Sp := fun vs H Q _ => ∃ (a : Addr) (v1 v2 v3 : V) (ps : List (Str × Str)) (qs rs : List Str), vs = [.ref a] ∧ H a = some (.lst [v1, v2, v3]) ∧ Arr H v1 ps ∧ Txts H v2 qs ∧ Txts H v3 rs ∧ ps.length ≤ 200 ∧ qs.length ≤ 200 ∧ rs.length ≤ 200 ∧
  ∀ H', Same H H' → Q (.bl (isLetP ps qs rs)) H'
section
variable {P : Program} {w : World} {K : PySem.W.Frag} {mg : Str → Option Value} {base : Heap}
theorem ok_let {f : Addr} {fd : FuncData} (F : Fun K "_law_is_let" "_law_is_let" sLet f fd) (A : Fnc P w K mg base CX0 2 "_law_all_of" ["_law_parts_here"] spAll) (B : Free mg) : FnOk P w K mg base CX0 3 f fd ["_law_parts_here"] spLet := by
  refine F.ok scLet (fun vs H Q E h => ?_) (fun cdv A0 outer s H vs Q E hr h => ?_)
  · obtain ⟨a, v1, v2, v3, ps, qs, rs, rfl, _⟩ := h
    rfl
  · obtain ⟨a, v1, v2, v3, ps, qs, rs, rfl, ha, sh1, t2, t3, few1, few2, few3, q⟩ := h
    refine ⟨_, pss_cons (ps_set (i := 1) scLet.nd rfl (.inl rfl) (pe_fnc A hr (by omega) (by rfl) pass0 (pa_cons (pv 0) pa_nil)))
      (pss_one (ps_ret (pe_and (pe_cmpR op_eq (pe_lenWords (by rfl) B.len (by rfl) B.set (pv 1)) (pe_callB call_len_seq (by rfl) B.len PySem.boot_len (pa_cons (pv 1) pa_nil)) (nomark _))
        (pe_and (pe_cmpR op_lt (pe_callB call_len_seq (by rfl) B.len PySem.boot_len (pa_cons (pe_ix ix_list (pv 0) pe_int (fun _ _ => rfl)) pa_nil)) pe_int (nomark _))
        (pe_and (pe_cmpR op_lt (pe_callB call_len_seq (by rfl) B.len PySem.boot_len (pa_cons (pe_ix ix_list (pv 0) pe_int (fun _ _ => rfl)) pa_nil)) pe_int (nomark _))
        (pe_one (pe_cmpR op_lt (pe_callB call_len_seq (by rfl) B.len PySem.boot_len (pa_cons (pe_ix ix_list (pv 0) pe_int (fun _ _ => rfl)) pa_nil)) pe_int (nomark _)))))))), ?_⟩
    refine ⟨.ref a, rfl, a, v1, v2, v3, ps, qs, rs, rfl, ha, sh1, t2, t3, by omega, by omega, by omega, fun l H1 w1 e1 => ?_⟩
    have few : (wordsOf ps qs rs).length ≤ 1000 := by
      have l4 := lensOf_le ps
      unfold wordsOf
      simp only [List.length_append, List.length_map]
      omega
    obtain ⟨b1, ys, rfl, e5, ln5, _⟩ := arr_get sh1
    obtain ⟨a2, rfl, e2⟩ := t2
    obtain ⟨a3, rfl, e3⟩ := t3
    have ha1 := w1 _ _ ha
    have z := q H1 w1
    refine ⟨.ref l, rfl, l, _, rfl, .inl (SqL.of e1), few, .ref l, rfl, l, _, rfl, .inl (SqL.of e1), rfl, _, rfl, ?_⟩
    have en : nodupW (wordsOf ps qs rs) = decide (V.int ((once (wordsOf ps qs rs)).length : Nat) = V.int (((wordsOf ps qs rs).map V.str).length : Nat)) := by
      unfold nodupW
      rw [List.length_map]
      exact decide_eq_decide.mpr ⟨fun z => congrArg V.int z, fun z => V.int.inj z⟩
    unfold isLetP at z
    rw [← en]
    refine ite2 (fun c1 => ?_) (fun c1 => ?_)
    · rw [c1, Bool.true_and] at z
      refine ⟨.ref a, rfl, a, _, 0, .ref b1, rfl, rfl, SqL.of ha1, rfl, b1, _, rfl, .inr (SqT.of (w1 _ _ e5)), _, _, rfl, rfl, _, rfl, ?_⟩
      have h1 : decide (((ys.length : Nat) : Int) < 13) = decide (ps.length < 13) := decide_eq_decide.mpr (by omega)
      rw [h1]
      refine ite2 (fun c2 => ?_) (fun c2 => ?_)
      · rw [c2, Bool.true_and] at z
        refine ⟨.ref a, rfl, a, _, 1, .ref a2, rfl, rfl, SqL.of ha1, rfl, a2, _, rfl, .inr (SqT.of (w1 _ _ e2)), _, _, rfl, rfl, _, rfl, ?_⟩
        have h2 : decide ((((qs.map V.str).length : Nat) : Int) < 7) = decide (qs.length < 7) := decide_eq_decide.mpr (by rw [List.length_map]; omega)
        rw [h2]
        refine ite2 (fun c3 => ?_) (fun c3 => ?_)
        · rw [c3, Bool.true_and] at z
          refine ⟨.ref a, rfl, a, _, 2, .ref a3, rfl, rfl, SqL.of ha1, rfl, a3, _, rfl, .inr (SqT.of (w1 _ _ e3)), _, _, rfl, rfl, ?_⟩
          have h3 : decide ((((rs.map V.str).length : Nat) : Int) < 7) = decide (rs.length < 7) := decide_eq_decide.mpr (by rw [List.length_map]; omega)
          rw [← h3] at z
          exact z
        · rw [Bool.eq_false_iff.mpr c3, Bool.false_and] at z
          exact z
      · rw [Bool.eq_false_iff.mpr c2, Bool.false_and] at z
        exact z
    · rw [Bool.eq_false_iff.mpr c1, Bool.false_and] at z
      exact z
end
end K02

set_option autoImplicit false
set_option maxRecDepth 100000
set_option maxHeartbeats 4000000
/-! terms with so much more -/
namespace K02
open PySem PySem.Spec PyProof.Rows L2 KX
/-- the term with so much more in its last number -/
def upD (m : Int) : PyData → PyData
  | .tuple [a, .int i] => .tuple [a, .int (i + m)]
  | .tuple [a, b, c, .int i] => .tuple [a, b, c, .int (i + m)]
  | d => d
/-- two or four members, the last one an integer -/
def endsI : PyData → Bool
  | .tuple [_, .int _] => true
  | .tuple [_, _, _, .int _] => true
  | _ => false
theorem upD4 (m i : Int) (a b c : PyData) : upD m (.tuple [a, b, c, .int i]) = .tuple [a, b, c, .int (i + m)] := by cases b <;> rfl
abbrev sRaised : Stmt := topS 27
theorem scRaised : FnScope ["term", "more"] ["term", "more"] (defScope sRaised) := ⟨rfl, rfl, rfl, by decide +kernel, rfl, by decide +kernel, by decide +kernel⟩
def spRaised : Sp := fun vs H Q _ => ∃ (v : V) (d : PyData) (m : Int), vs = [v, .int m] ∧ Shw H v d ∧ endsI d = true ∧ ∀ v' H', Same H H' → Shw H' v' (upD m d) → Q v' H'
section
variable {P : Program} {w : World} {K : PySem.W.Frag} {mg : Str → Option Value} {base : Heap}
theorem shw_int {H : Hp} {x : V} {i : Int} (s : Shw H x (.int i)) : x = .int i := by cases s; rfl
theorem ok_raised {f : Addr} {fd : FuncData} (F : Fun K "raised" "raised" sRaised f fd) : FnOk P w K mg base CX0 1 f fd ["term", "more"] spRaised := by
  refine F.ok scRaised (fun vs H Q E h => ?_) (fun cdv A outer s H vs Q E hr h => ?_)
  · obtain ⟨v, d, m, rfl, _⟩ := h
    rfl
  · obtain ⟨v, d, m, rfl, sh, g, q⟩ := h
    refine ⟨_, pss_one (ps_ret (pe_tup (StX.pa_star (pe_slice sl_tupA (pv 0) po_none (po_some (pe_un un_neg pe_int)))
      (pa_cons (pe_op op_add (pe_ix ix_tup (pv 0) (pe_un un_neg pe_int) (fun _ _ => rfl)) (pv 1)) pa_nil)))), ?_⟩
    have sh' : ∃ a xs ds, v = .ref a ∧ d = .tuple ds ∧ H a = some (.tup xs) ∧ ShwAll H xs ds := by
      cases sh with
      | @tup a xs ds e ha => exact ⟨a, xs, ds, rfl, rfl, e, ha⟩
      | _ => cases g
    obtain ⟨a, xs, ds, rfl, rfl, e, ha⟩ := sh'
    match ds, g, ha, q with
    | [d0, .int i], _, ha, q =>
      obtain ⟨x0, x1, _, _, rfl, ed, s0, s1⟩ := two_of ha rfl
      cases ed
      obtain rfl := shw_int s1
      refine ⟨.ref a, rfl, 1, rfl, -1, rfl, a, _, rfl, SqT.of e, fun h => absurd (show (1 : Nat) = 2 from h.2) (by decide), fun _ p np => ?_⟩
      have sm := same_upd (p := p) (o := .tup [x0]) np
      refine ⟨p, [x0], rfl, .inl (SqT.of upd_same), .ref a, rfl, 1, rfl, a, _, -1, .int i, rfl, rfl, SqT.of (sm _ _ e), rfl, V.int m, rfl, i, m, rfl, rfl, ?_⟩
      refine ⟨(by rw [sizeLine_eq]; simp), fun r nr => q _ _ (sm.trans (same_upd nr)) ?_⟩
      have s12 := sm.trans (same_upd (p := r) (o := .tup [x0, .int (i + m)]) nr)
      exact .tup upd_same (.cons (Shw.same s0 s12) (.cons (.int _) .nil))
    | [d0, d1, d2, .int i], _, ha, q =>
      obtain ⟨x0, x1, x2, x3, _, _, _, _, rfl, ed, s0, s1, s2, s3⟩ := four_of ha rfl
      cases ed
      obtain rfl := shw_int s3
      refine ⟨.ref a, rfl, 1, rfl, -1, rfl, a, _, rfl, SqT.of e, fun h => absurd (show (3 : Nat) = 4 from h.2) (by decide), fun _ p np => ?_⟩
      have sm := same_upd (p := p) (o := .tup [x0, x1, x2]) np
      refine ⟨p, [x0, x1, x2], rfl, .inl (SqT.of upd_same), .ref a, rfl, 1, rfl, a, _, -1, .int i, rfl, rfl, SqT.of (sm _ _ e), rfl, V.int m, rfl, i, m, rfl, rfl, ?_⟩
      refine ⟨(by rw [sizeLine_eq]; simp), fun r nr => q _ _ (sm.trans (same_upd nr)) ?_⟩
      have s12 := sm.trans (same_upd (p := r) (o := .tup [x0, x1, x2, .int (i + m)]) nr)
      rw [upD4]
      exact .tup upd_same (.cons (Shw.same s0 s12) (.cons (Shw.same s1 s12) (.cons (Shw.same s2 s12) (.cons (.int _) .nil))))
end
end K02

set_option autoImplicit false
set_option maxRecDepth 100000
set_option maxHeartbeats 4000000
/-! terms of a frame -/
namespace K02
open PySem PySem.Spec PyProof.Rows L2 KX
/-- a term of the frame, without own names -/
def isTrm (ps : List (Str × Str)) (qs rs : List Str) (d : PyData) : Bool := isPos ps qs rs [] d || isVal ps qs rs [] d
abbrev sTrm : Stmt := inClass (topS 30) 12
theorem scTrm : FnScope ["self", "value"] ["self", "value"] (defScope sTrm) := ⟨rfl, rfl, rfl, by decide +kernel, rfl, by decide +kernel, by decide +kernel⟩
def spTrm (C : Addr) : Sp := fun vs H Q _ => ∃ (p : Addr) (v1 v2 v3 : V) (ps : List (Str × Str)) (qs rs : List Str) (v : V) (d : PyData), vs = [.ref p, v] ∧ FrameAt C H p v1 v2 v3 ps qs rs ∧ Shw H v d ∧
  ∀ H', Same H H' → Q (.bl (isTrm ps qs rs d)) H'
section
variable {P : Program} {w : World} {K : PySem.W.Frag} {mg : Str → Option Value} {base : Heap}
theorem ok_trm {f C : Addr} {fd : FuncData} (F : Fun K "_is_term" "Frame._is_term" sTrm f fd) (PO : Fnc P w K mg base CX0 3 "is_position_over" ["frame", "value", "extra"] (spPos K C))
    (VO : Fnc P w K mg base CX0 4 "is_value_over" ["frame", "value", "extra"] (spVal K C)) : FnOk P w K mg base CX0 5 f fd ["self", "value"] (spTrm C) := by
  refine F.ok scTrm (fun vs H Q E h => ?_) (fun cdv A outer s H vs Q E hr h => ?_)
  · obtain ⟨p, v1, v2, v3, ps, qs, rs, v, d, rfl, _⟩ := h
    rfl
  · obtain ⟨p, v1, v2, v3, ps, qs, rs, v, d, rfl, Fr, sh, q⟩ := h
    refine ⟨_, pss_one (ps_ret (pe_or (pe_fnc PO hr (by omega) (by rfl) pass0 (pa_cons (pv 0) (pa_cons (pv 1) (pa_cons (pe_tup pa_nil) pa_nil))))
      (pe_one (pe_fnc VO hr (by omega) (by rfl) pass0 (pa_cons (pv 0) (pa_cons (pv 1) (pa_cons (pe_tup pa_nil) pa_nil))))))), ?_⟩
    refine ⟨.ref p, rfl, v, rfl, (by rw [sizeLine_eq]; decide), fun tp ntp => ?_⟩
    have sm := same_upd (p := tp) (o := .tup []) ntp
    refine ⟨p, v1, v2, v3, ps, qs, rs, v, d, .ref tp, [], rfl, Fr.same sm, Shw.same sh sm, ⟨tp, rfl, SqT.of upd_same⟩, fun H1 w1 => ⟨_, rfl, ?_⟩⟩
    have w01 := sm.trans w1
    refine ite2 (fun e1 => ?_) (fun e1 => ?_)
    · have z := q H1 w01
      unfold isTrm at z
      rw [e1, Bool.true_or] at z
      exact z
    · refine ⟨.ref p, rfl, v, rfl, (by rw [sizeLine_eq]; decide), fun tp2 ntp2 => ?_⟩
      have sm2 := same_upd (p := tp2) (o := .tup []) ntp2
      have w02 := w01.trans sm2
      refine ⟨p, v1, v2, v3, ps, qs, rs, v, d, .ref tp2, [], rfl, Fr.same w02, Shw.same sh w02, ⟨tp2, rfl, SqT.of upd_same⟩, fun H3 w3 => ?_⟩
      have z := q H3 (w02.trans w3)
      unfold isTrm at z
      rw [Bool.eq_false_iff.mpr e1, Bool.false_or] at z
      exact z
end
end K02

set_option autoImplicit false
set_option maxRecDepth 100000
set_option maxHeartbeats 4000000
/-! own names -/
namespace K02
open PySem PySem.Spec PyProof.Rows L2 KX
abbrev sOwn : Stmt := topS 26
abbrev nOwn : List Str := ["frame", "own", "word"]
theorem scOwn : FnScope nOwn ["frame", "own"] (defScope sOwn) := ⟨rfl, rfl, rfl, by decide +kernel, rfl, by decide +kernel, by decide +kernel⟩
/-- asked of right own names alone: at most two unlike names, fresh for the frame -/
structure OwnOk (ws own : List Str) : Prop where
  few : own.length ≤ 2
  nm : ∀ z ∈ own, nameS z = true
  nd : (once own).length = own.length
  fr : ∀ z ∈ own, z ∉ ws
def spOwn (C : Addr) : Sp := fun vs H Q _ => ∃ (p : Addr) (v1 v2 v3 : V) (ps : List (Str × Str)) (qs rs : List Str) (x : V) (own : List Str), vs = [.ref p, x] ∧ FrameAt C H p v1 v2 v3 ps qs rs ∧ Txts H x own ∧ OwnOk (wordsOf ps qs rs) own ∧
  (∀ z ∈ own, gd (.str z) = true) ∧ ∀ H', Same H H' → Q .non H'
section
variable {P : Program} {w : World} {K : PySem.W.Frag} {mg : Str → Option Value} {base : Heap}
theorem shw_strs {H : Hp} : ∀ (zs : List Str), ShwAll H (zs.map V.str) (zs.map PyData.str)
  | [] => .nil
  | z :: zs => .cons (.str z) (shw_strs zs)
theorem gd_strs : ∀ zs : List Str, (∀ z ∈ zs, gd (.str z) = true) → gdAll (zs.map PyData.str) = true
  | [], _ => by simp only [List.map_nil, gdAll]
  | z :: zs, h => by
    simp only [List.map_cons, gdAll]
    rw [h z List.mem_cons_self, gd_strs zs fun y hy => h y (List.mem_cons_of_mem _ hy)]
    rfl
theorem ok_own {f C : Addr} {fd : FuncData} {tk : Tok} (F : Fun K "check_own" "check_own" sOwn f fd) (T : FrTxt K mg C) (B : Free mg) (A : Fnc P w K mg base CX0 2 "are_names" ["value", "most"] spNames) (gO : mg "MAX_OWN" = some (.int 2 tk))
    (O : OM P w K mg base CX0 2 C "is_fresh" ["self", "value"] (spFresh C)) : FnOk P w K mg base CX0 3 f fd ["frame", "own"] (spOwn C) := by
  refine F.ok scOwn (fun vs H Q E h => ?_) (fun cdv A0 outer s H vs Q E hr h => ?_)
  · obtain ⟨p, v1, v2, v3, ps, qs, rs, x, own, rfl, _⟩ := h
    rfl
  · obtain ⟨p, v1, v2, v3, ps, qs, rs, x, own, rfl, Fr, tx, ok, gds, q⟩ := h
    refine ⟨_, pss_one (ps_if (PW.pt (pw_or (pt_not (pt_val (pe_fnc A hr (by omega) (by rfl) pass0 (pa_cons (pv 1) (pa_cons (pe_glob (v := .int 2) (by rfl) gO ⟨_, rfl⟩) pa_nil)))))
          (pw_or (pt_cmpR op_lt (pe_lenWords (by rfl) B.len (by rfl) B.set (pv 1)) (pe_callB call_len_seq (by rfl) B.len PySem.boot_len (pa_cons (pv 1) pa_nil)) (nomark _))
          (pw_or1 (pt_not (pt_val (pe_callB (cr_all rfl) (by rfl) B.all (by decide +kernel) (pa_cons (pe_lc (own := [("word", 2)]) (g := gName 2) (tt := tYes) rfl scOwn.nd (pi_tup (pv 1)) (blkOk_by (N := nOwn) (sc := defScope sOwn) (by decide +kernel))
            (fun _ _ _ _ _ => pg_name (i := 2) scOwn.nd rfl (Or.inl rfl)) (fun _ _ _ _ _ => pts_nil) (fun _ _ _ _ _ => pe_om (pl := _) O T.cl hr (by omega) pass0 (pv 0) (pa_cons (pv 2) pa_nil))) pa_nil))))))))
        (pss_one ps_never) pss_nil), ?_⟩
    obtain ⟨b, rfl, e⟩ := tx
    have shx : Shw H (.ref b) (.tuple (own.map PyData.str)) := .tup e (shw_strs own)
    have gdx : gd (.tuple (own.map PyData.str)) = true := by
      have go := gd_strs
      simp only [gd]
      rw [go own gds, Bool.and_true, List.length_map]
      exact decide_eq_true (by have := ok.few; omega)
    have an : areNm 2 (.tuple (own.map PyData.str)) = true := by
      show (decide ((own.map PyData.str).length ≤ 2) && (own.map PyData.str).all isNm) = true
      rw [List.length_map, decide_eq_true ok.few, Bool.true_and, List.all_map]
      exact List.all_eq_true.mpr fun z hz => ok.nm z hz
    refine ⟨.ref b, rfl, .ref b, _, 2, rfl, shx, gdx, fun H1 w1 => ⟨_, rfl, ?_⟩⟩
    rw [an]
    have e1 := w1 _ _ e
    refine ⟨.ref b, rfl, b, own, rfl, .inr (SqT.of e1), by have := ok.few; omega, .ref b, rfl, b, _, rfl, .inr (SqT.of e1), _, _, rfl, rfl, _, rfl, ?_⟩
    have c1 : decide ((((once own).length : Nat) : Int) < (((own.map V.str).length : Nat) : Int)) = false := by
      rw [ok.nd, List.length_map]
      exact decide_eq_false (by omega)
    rw [c1]
    refine ⟨.ref b, rfl, b, rfl, ⟨_, SqT.of e1⟩, fun D nD => ?_⟩
    refine lc_tupD (K := K) (fun d => .bl (isNm d && !hasW (wordsOf ps qs rs) d)) e1 nD (by rw [List.length_map]; have := ok.few; omega) (shw_strs own) (fun x d H' Q' hx hd shx s1 k => ?_) (fun H' s1 d1 => ?_)
    · have Fr1 := Fr.same (w1.trans s1)
      obtain ⟨dx, t, d2, e4, ob, _⟩ := id Fr1.ob
      obtain ⟨z, hz, rfl⟩ := List.mem_map.mp hd
      exact ⟨rfl, .ref p, rfl, p, dx, _, rfl, ob, lookup_zip_none (by decide +kernel), x, rfl, p, v1, v2, v3, ps, qs, rs, x, .str z, rfl, Fr1, shx, gds z hz, fun H4 s4 => k H4 s4⟩
    · refine ⟨D, (own.map PyData.str).map fun d => (isNm d && !hasW (wordsOf ps qs rs) d), rfl, SqL.of (by rw [d1]; simp only [List.map_map]; rfl), ?_⟩
      have ea : (((own.map PyData.str).map fun d => (isNm d && !hasW (wordsOf ps qs rs) d)).all id) = true := by
        rw [List.map_map, List.all_map]
        refine List.all_eq_true.mpr fun z hz => ?_
        show (nameS z && !decide (z ∈ wordsOf ps qs rs)) = true
        rw [ok.nm z hz, decide_eq_false (ok.fr z hz)]
        rfl
      rw [ea]
      exact ⟨_, rfl, q H' (w1.trans s1)⟩
end
end K02

set_option autoImplicit false
set_option maxRecDepth 100000
set_option maxHeartbeats 4000000
/-! own names, of the run or of the written part -/
namespace K02
open PySem PySem.Spec PyProof.Rows L2 KX
theorem sqt_ty {K : PySem.W.Frag} {H : Hp} {a : Addr} {xs : List V} (h : SqT K H a xs) : TyX K H (.ref a) (.type "tuple") := by
  rcases h with (h | ⟨o, h⟩) | ⟨o, its, n, h, c, _⟩
  · exact .base (.tup h)
  · exact .fTuple h
  · exact .kTuple h c
/-- asked of names alone -/
def spNamesK (K : PySem.W.Frag) : Sp := fun vs H Q _ => ∃ (b : Addr) (n : Nat) (zs : List Str), vs = [.ref b, .int n] ∧ SqT K H b (zs.map V.str) ∧ zs.length ≤ n ∧ zs.length ≤ 1000 ∧ (∀ z ∈ zs, nameS z = true) ∧ (∀ z ∈ zs, gd (.str z) = true) ∧ ∀ H', Same H H' → Q (.bl true) H'
def spOwnK (K : PySem.W.Frag) (C : Addr) : Sp := fun vs H Q _ => ∃ (p : Addr) (v1 v2 v3 : V) (ps : List (Str × Str)) (qs rs : List Str) (x : V) (own : List Str), vs = [.ref p, x] ∧ FrameAt C H p v1 v2 v3 ps qs rs ∧ TxK K H x own ∧ OwnOk (wordsOf ps qs rs) own ∧
  (∀ z ∈ own, gd (.str z) = true) ∧ ∀ H', Same H H' → Q .non H'
section
variable {P : Program} {w : World} {K : PySem.W.Frag} {mg : Str → Option Value} {base : Heap}
/-- a comprehension over texts, of the run or of the written part -/
theorem lc_txt {a : Addr} {zs : List Str} {g : TG} {te : TE} {vs : List Nat} {σ : L2.St} {H1 : Hp} {D : Addr} {Qd : Hp → Prop} (G : Str → V) (hx : SqT K H1 a (zs.map V.str)) (n : H1 D = none) (few : zs.length ≤ 100000)
    (step : ∀ (z : Str) (H' : Hp) (Q' : VK), z ∈ zs → Same H1 H' → (∀ H4, Same H' H4 → Q' (G z) H4) → g (.str z) (wipe σ vs) H' fun σ2 H2 => wipe σ2 vs = wipe σ vs ∧ te σ2 H2 Q')
    (fin : ∀ H', Same H1 H' → H' D = some (.lst (zs.map G)) → Qd H') :
    ∃ W : Nat → Nat → Hp → Prop, (∃ m, W 0 m (upd H1 D (.lst []))) ∧ ∀ i m H, W i m H →
      ((Itt K a).stop i H ∧ Qd H) ∨ ((Itt K a).go i H ∧ ∃ Nx : Hp → Prop, (∀ H', Nx H' → ∃ m', m' < m ∧ W (i + 1) m' H') ∧ ∀ x H', (Itt K a).yld i H x H' → g x (wipe σ vs) H' fun σ2 H2 => wipe σ2 vs = wipe σ vs ∧ tYes σ2 H2 fun b H3 =>
        if b = true then te σ2 H3 fun y H4 => ∃ acc, H4 D = some (.lst acc) ∧ acc.length < sizeLine ∧ Nx (upd H4 D (.lst (acc ++ [y]))) else Nx H3) := by
  refine lc_tup (K := K) (a := a) (xs := zs.map V.str) (fun m H' => Same H1 H' ∧ H' D = some (.lst ((zs.take m).map G))) ⟨same_upd n, by rw [List.take_zero]; exact upd_same⟩ (fun m H' _ hP => SqT.same hx hP.1) (fun m x H' hm hP => ?_) (fun H' hP => ?_)
  · obtain ⟨s1, d1⟩ := hP
    rw [List.getElem?_map] at hm
    obtain ⟨z, hz, rfl⟩ := Option.map_eq_some_iff.mp hm
    refine step z H' _ (List.mem_of_getElem? hz) s1 fun H4 s4 => ⟨_, s4 _ _ d1, ?_, fun b o e => ?_, ?_⟩
    · have := (List.getElem?_eq_some_iff.mp hz).1
      rw [List.length_map, List.length_take, sizeLine_eq]
      omega
    · rw [upd_ne (ne_of_none e n)]
      exact s4 _ _ (s1 _ _ e)
    · rw [upd_same, List.take_add_one, hz, List.map_append]
      rfl
  · obtain ⟨s1, d1⟩ := hP
    rw [List.length_map, List.take_length] at d1
    exact fin H' s1 d1
theorem ok_namesK {f : Addr} {fd : FuncData} (F : Fun K "are_names" "are_names" sAreNames f fd) (N : Fnc P w K mg base CX0 1 "is_name" ["value"] (spName K)) (B : Free mg) :
    FnOk P w K mg base CX0 2 f fd ["value", "most"] (spNamesK K) := by
  refine F.ok scAreNames (fun vs H Q E h => ?_) (fun cdv A outer s H vs Q E hr h => ?_)
  · obtain ⟨b, n, zs, rfl, _⟩ := h
    rfl
  · obtain ⟨b, n, zs, rfl, hb, few, few2, nm, gds, q⟩ := h
    refine ⟨_, pss_one (ps_ret (pe_and (pe_callB call_isi (by rfl) B.isinstance (by decide +kernel) (pa_cons (pv 0) (pa_cons (pe_bltn (v := .ty "tuple") (by rfl) B.tuple (by decide +kernel) rfl) pa_nil)))
      (pe_and (pe_cmpR op_le (pe_callB call_len_seq (by rfl) B.len PySem.boot_len (pa_cons (pv 0) pa_nil)) (pv 1) (nomark _))
      (pe_one (pe_callB (cr_all rfl) (by rfl) B.all (by decide +kernel) (pa_cons (pe_lc (own := [("word", 2)]) (g := gName 2) (tt := tYes) rfl scAreNames.nd (pi_tup (pv 0)) (blkOk_by (N := ["value", "most", "word"]) (sc := defScope sAreNames) (by decide +kernel))
          (fun _ _ _ _ _ => pg_name (i := 2) scAreNames.nd rfl (Or.inl rfl)) (fun _ _ _ _ _ => pts_nil) (fun _ _ _ _ _ => pe_fnc N hr (by omega) (by rfl) pass0 (pa_cons (pv 2) pa_nil))) pa_nil)))))), ?_⟩
    refine ⟨.ref b, rfl, .ref b, .ty "tuple", _, _, true, rfl, .ty _, sqt_ty hb, kit_ty (kit_tup (.tuple [])), true, rfl, ?_⟩
    refine ⟨.ref b, rfl, b, _, rfl, .inr hb, .int n, rfl, _, _, rfl, rfl, _, rfl, ?_⟩
    have c1 : decide ((((zs.map V.str).length : Nat) : Int) ≤ (n : Int)) = true := decide_eq_true (by rw [List.length_map]; omega)
    rw [c1]
    refine ⟨.ref b, rfl, b, rfl, ⟨_, hb⟩, fun D nD => ?_⟩
    refine lc_txt (K := K) (fun z => .bl (nameS z)) hb nD (by omega) (fun z H' Q' hz s1 k => ⟨rfl, .str z, rfl, .str z, nameS z, rfl, shw_name (d := .str z) (.str z) (gds z hz), fun H4 s4 => k H4 s4⟩) (fun H' s1 d1 => ?_)
    refine ⟨D, zs.map nameS, rfl, SqL.of (by rw [d1]; simp only [List.map_map]; rfl), ?_⟩
    have ea : (zs.map nameS).all id = true := by
      rw [List.all_map]
      exact List.all_eq_true.mpr fun z hz => nm z hz
    rw [ea]
    exact q H' s1
theorem ok_ownK {f C : Addr} {fd : FuncData} {tk : Tok} (F : Fun K "check_own" "check_own" sOwn f fd) (T : FrTxt K mg C) (B : Free mg) (A : Fnc P w K mg base CX0 2 "are_names" ["value", "most"] (spNamesK K)) (gO : mg "MAX_OWN" = some (.int 2 tk))
    (O : OM P w K mg base CX0 2 C "is_fresh" ["self", "value"] (spFresh C)) : FnOk P w K mg base CX0 3 f fd ["frame", "own"] (spOwnK K C) := by
  refine F.ok scOwn (fun vs H Q E h => ?_) (fun cdv A0 outer s H vs Q E hr h => ?_)
  · obtain ⟨p, v1, v2, v3, ps, qs, rs, x, own, rfl, _⟩ := h
    rfl
  · obtain ⟨p, v1, v2, v3, ps, qs, rs, x, own, rfl, Fr, tx, ok, gds, q⟩ := h
    refine ⟨_, pss_one (ps_if (PW.pt (pw_or (pt_not (pt_val (pe_fnc A hr (by omega) (by rfl) pass0 (pa_cons (pv 1) (pa_cons (pe_glob (v := .int 2) (by rfl) gO ⟨_, rfl⟩) pa_nil)))))
          (pw_or (pt_cmpR op_lt (pe_lenWords (by rfl) B.len (by rfl) B.set (pv 1)) (pe_callB call_len_seq (by rfl) B.len PySem.boot_len (pa_cons (pv 1) pa_nil)) (nomark _))
          (pw_or1 (pt_not (pt_val (pe_callB (cr_all rfl) (by rfl) B.all (by decide +kernel) (pa_cons (pe_lc (own := [("word", 2)]) (g := gName 2) (tt := tYes) rfl scOwn.nd (pi_tup (pv 1)) (blkOk_by (N := nOwn) (sc := defScope sOwn) (by decide +kernel))
            (fun _ _ _ _ _ => pg_name (i := 2) scOwn.nd rfl (Or.inl rfl)) (fun _ _ _ _ _ => pts_nil) (fun _ _ _ _ _ => pe_om (pl := _) O T.cl hr (by omega) pass0 (pv 0) (pa_cons (pv 2) pa_nil))) pa_nil))))))))
        (pss_one ps_never) pss_nil), ?_⟩
    obtain ⟨b, rfl, e⟩ := tx
    have few := ok.few
    refine ⟨.ref b, rfl, b, 2, own, rfl, e, few, by omega, ok.nm, gds, fun H1 w1 => ⟨_, rfl, ?_⟩⟩
    have e1 := SqT.same e w1
    refine ⟨.ref b, rfl, b, own, rfl, .inr e1, by omega, .ref b, rfl, b, _, rfl, .inr e1, _, _, rfl, rfl, _, rfl, ?_⟩
    have c1 : decide ((((once own).length : Nat) : Int) < (((own.map V.str).length : Nat) : Int)) = false := by
      rw [ok.nd, List.length_map]
      exact decide_eq_false (by omega)
    rw [c1]
    refine ⟨.ref b, rfl, b, rfl, ⟨_, e1⟩, fun D nD => ?_⟩
    refine lc_txt (K := K) (fun z => .bl (isNm (.str z) && !hasW (wordsOf ps qs rs) (.str z))) e1 nD (by omega) (fun z H' Q' hz s1 k => ?_) (fun H' s1 d1 => ?_)
    · have Fr1 := Fr.same (w1.trans s1)
      obtain ⟨dx, t, d2, e4, ob, _⟩ := id Fr1.ob
      exact ⟨rfl, .ref p, rfl, p, dx, _, rfl, ob, lookup_zip_none (by decide +kernel), .str z, rfl, p, v1, v2, v3, ps, qs, rs, .str z, .str z, rfl, Fr1, .str z, gds z hz, fun H4 s4 => k H4 s4⟩
    · refine ⟨D, own.map fun z => (isNm (.str z) && !hasW (wordsOf ps qs rs) (.str z)), rfl, SqL.of (by rw [d1]; simp only [List.map_map]; rfl), ?_⟩
      have ea : ((own.map fun z => (isNm (.str z) && !hasW (wordsOf ps qs rs) (.str z))).all id) = true := by
        rw [List.all_map]
        refine List.all_eq_true.mpr fun z hz => ?_
        show (nameS z && !decide (z ∈ wordsOf ps qs rs)) = true
        rw [ok.nm z hz, decide_eq_false (ok.fr z hz)]
        rfl
      rw [ea]
      exact ⟨_, rfl, q H' (w1.trans s1)⟩
end
end K02

set_option autoImplicit false
set_option maxRecDepth 100000
set_option maxHeartbeats 4000000
/-! terms with own names: the methods' bodies -/
namespace K02
open PySem PySem.Spec PyProof.Rows L2 KX
abbrev sIsP : Stmt := inClass (topS 30) 9
abbrev sIsV : Stmt := inClass (topS 30) 10
theorem scIsP : FnScope ["self", "value", "own"] ["self", "value", "own"] (defScope sIsP) := ⟨rfl, rfl, rfl, by decide +kernel, rfl, by decide +kernel, by decide +kernel⟩
theorem scIsV : FnScope ["self", "value", "own"] ["self", "value", "own"] (defScope sIsV) := ⟨rfl, rfl, rfl, by decide +kernel, rfl, by decide +kernel, by decide +kernel⟩
def spIsT (K : PySem.W.Frag) (C : Addr) (t : List (Str × Str) → List Str → List Str → List Str → PyData → Bool) : Sp := fun vs H Q _ => ∃ (p : Addr) (v1 v2 v3 : V) (ps : List (Str × Str)) (qs rs : List Str) (v : V) (d : PyData) (x : V) (own : List Str), vs = [.ref p, v, x] ∧
  FrameAt C H p v1 v2 v3 ps qs rs ∧ Shw H v d ∧ TxK K H x own ∧ OwnOk (wordsOf ps qs rs) own ∧ (∀ z ∈ own, gd (.str z) = true) ∧ ∀ H', Same H H' → Q (.bl (t ps qs rs own d)) H'
section
variable {P : Program} {w : World} {K : PySem.W.Frag} {mg : Str → Option Value} {base : Heap}
theorem ok_isP {f C : Addr} {fd : FuncData} {dvs : List V} {kws : List (Str × V)} (F : FunD K "is_position_term" "Frame.is_position_term" (defArgs sIsP) (defBody sIsP) (defScope sIsP) dvs kws f fd)
    (A : Fnc P w K mg base CX0 3 "check_own" ["frame", "own"] (spOwnK K C)) (PO : Fnc P w K mg base CX0 3 "is_position_over" ["frame", "value", "extra"] (spPos K C)) : FnOk P w K mg base CX0 4 f fd ["self", "value", "own"] (spIsT K C isPos) := by
  refine F.ok scIsP (fun vs H Q E h => ?_) (fun cdv A0 outer s H vs Q E hr h => ?_)
  · obtain ⟨p, v1, v2, v3, ps, qs, rs, v, d, x, own, rfl, _⟩ := h
    rfl
  · obtain ⟨p, v1, v2, v3, ps, qs, rs, v, d, x, own, rfl, Fr, sh, tx, ok, gds, q⟩ := h
    refine ⟨_, pss_cons (ps_expr (pe_fnc A hr (by omega) (by rfl) pass0 (pa_cons (pv 0) (pa_cons (pv 2) pa_nil))))
      (pss_one (ps_ret (pe_fnc PO hr (by omega) (by rfl) pass0 (pa_cons (pv 0) (pa_cons (pv 1) (pa_cons (pv 2) pa_nil)))))), ?_⟩
    exact ⟨.ref p, rfl, x, rfl, p, v1, v2, v3, ps, qs, rs, x, own, rfl, Fr, tx, ok, gds, fun H1 w1 =>
      ⟨.ref p, rfl, v, rfl, x, rfl, p, v1, v2, v3, ps, qs, rs, v, d, x, own, rfl, Fr.same w1, Shw.same sh w1, tx.same w1, fun H2 w2 => q H2 (w1.trans w2)⟩⟩
theorem ok_isV {f C : Addr} {fd : FuncData} {dvs : List V} {kws : List (Str × V)} (F : FunD K "is_value_term" "Frame.is_value_term" (defArgs sIsV) (defBody sIsV) (defScope sIsV) dvs kws f fd)
    (A : Fnc P w K mg base CX0 3 "check_own" ["frame", "own"] (spOwnK K C)) (VO : Fnc P w K mg base CX0 4 "is_value_over" ["frame", "value", "extra"] (spVal K C)) : FnOk P w K mg base CX0 5 f fd ["self", "value", "own"] (spIsT K C isVal) := by
  refine F.ok scIsV (fun vs H Q E h => ?_) (fun cdv A0 outer s H vs Q E hr h => ?_)
  · obtain ⟨p, v1, v2, v3, ps, qs, rs, v, d, x, own, rfl, _⟩ := h
    rfl
  · obtain ⟨p, v1, v2, v3, ps, qs, rs, v, d, x, own, rfl, Fr, sh, tx, ok, gds, q⟩ := h
    refine ⟨_, pss_cons (ps_expr (pe_fnc A hr (by omega) (by rfl) pass0 (pa_cons (pv 0) (pa_cons (pv 2) pa_nil))))
      (pss_one (ps_ret (pe_fnc VO hr (by omega) (by rfl) pass0 (pa_cons (pv 0) (pa_cons (pv 1) (pa_cons (pv 2) pa_nil)))))), ?_⟩
    exact ⟨.ref p, rfl, x, rfl, p, v1, v2, v3, ps, qs, rs, x, own, rfl, Fr, tx, ok, gds, fun H1 w1 =>
      ⟨.ref p, rfl, v, rfl, x, rfl, p, v1, v2, v3, ps, qs, rs, v, d, x, own, rfl, Fr.same w1, Shw.same sh w1, tx.same w1, fun H2 w2 => q H2 (w1.trans w2)⟩⟩
end
end K02

set_option autoImplicit false
set_option maxRecDepth 100000
set_option maxHeartbeats 4000000
/-! methods with keywords, and with defaults that are not given -/
namespace K02
open PySem PySem.Spec PyProof.Rows L2 KX
/-- a method, its last parameters' defaults filling up -/
structure OMD (P : Program) (w : World) (K : PySem.W.Frag) (mg : Str → Option Value) (base : Heap) (CX : CXT) (k : Nat) (C : Addr) (m : Str) (ps : List Str) (sp : Sp) (dvs : List V) : Prop where
  ex : ∃ (g : Addr) (fd : FuncData) (ds : List Value), OwnDef K C m g ∧ PySem.W.keepIn K (.ref g) = true ∧ FnOk P w K mg base CX k g fd ps sp ∧ Binds K fd ps ds ∧ Vals dvs ds
/-- a method that is called by keywords -/
structure OMK (P : Program) (w : World) (K : PySem.W.Frag) (mg : Str → Option Value) (base : Heap) (CX : CXT) (k : Nat) (C : Addr) (m : Str) (ps : List Str) (sp : Sp) (n : Nat) (ks : List Str) (gV : List V → List V → List V) : Prop where
  ex : ∃ (h : Addr) (fd : FuncData) (g : List Value → List Value → List Value), OwnDef K C m h ∧ PySem.W.keepIn K (.ref h) = true ∧ FnOk P w K mg base CX k h fd ps sp ∧ KBn K fd ps n ks g gV
section
variable {X : Cx} {CX : CXT} {k j n : Nat} {C : Addr} {m : Str} {sp : Sp} {ps ks : List Str} {E : XK} {o e : Expr} {es : List Expr} {kws : List Keyword} {ta : TE} {t tk : TA} {apos pos : Pos} {dvs : List V} {gV : List V → List V → List V} {ES : L2.St → XK}
theorem pe_omd {pl : Sem Bool} (O : OMD X.prog X.w X.K X.mg X.base CX k C m ps sp dvs) (c : Cls X.K C) (hr : Room j X.A) (hk : k ≤ j) (hx : Passes CX X E) (he : PE X o ta) (ha : PA X (e :: es) t)
    (hst : starEach (e :: es) X.env = (false, eval e X.env) :: starEach es X.env := by rfl) (hpl : (backTo pos (starEach es X.env)).any (·.1) = false := by rfl)
    (ht : eval (.Call (.Attribute o m apos) (e :: es) [] pos) X.env = (do
      let ov ← eval o X.env
      standAt apos.atName
      let (f, first) ← holding [ov] (getMethod ov m pl)
      callWith pos f first (backTo pos (starEach (e :: es) X.env)) (backToKw pos (keywordEach [] X.env))) := by rfl) : PE X (.Call (.Attribute o m apos) (e :: es) [] pos) (tMeth C m sp dvs E ta t) := by
  obtain ⟨g, fd, ds, D, hkp, F, hb, hd⟩ := O.ex
  exact pe_meth he c ⟨D.at_, D.fn, hkp⟩ F (hr.mono hk) hb hd hx ha hst hpl ht
theorem pe_omd0 {pl : Sem Bool} (O : OMD X.prog X.w X.K X.mg X.base CX k C m ps sp dvs) (c : Cls X.K C) (hr : Room j X.A) (hk : k ≤ j) (hx : Passes CX X E) (he : PE X o ta)
    (ht : eval (.Call (.Attribute o m apos) [] [] pos) X.env = (do
      let ov ← eval o X.env
      standAt apos.atName
      let (f, first) ← holding [ov] (getMethod ov m pl)
      callWith pos f first (backTo pos (starEach [] X.env)) (backToKw pos (keywordEach [] X.env))) := by rfl) : PE X (.Call (.Attribute o m apos) [] [] pos) (tMeth C m sp dvs E ta tNil) := by
  obtain ⟨g, fd, ds, D, hkp, F, hb, hd⟩ := O.ex
  exact pe_meth0 he c ⟨D.at_, D.fn, hkp⟩ F (hr.mono hk) hb hd hx ht
theorem pe_omk {pl : Sem Bool} (O : OMK X.prog X.w X.K X.mg X.base CX k C m ps sp n ks gV) (c : Cls X.K C) (hr : Room j X.A) (hk : k ≤ j) (hx : ∀ σ, PassesAt CX X σ (ES σ)) (he : PE X o ta) (ha : PA X (e :: es) t) (hkw : PK X kws tk)
    (hall : (backToKw pos (keywordEach kws X.env)).all (·.1.isSome) = true := by rfl) (hks : (backToKw pos (keywordEach kws X.env)).filterMap (·.1) = ks := by rfl)
    (hst : starEach (e :: es) X.env = (false, eval e X.env) :: starEach es X.env := by rfl)
    (hpl : ((backTo pos (starEach (e :: es) X.env)).any (·.1) || (backToKw pos (keywordEach kws X.env)).any (·.1.isNone)) = false := by rfl)
    (ht : eval (.Call (.Attribute o m apos) (e :: es) kws pos) X.env = (do
      let ov ← eval o X.env
      standAt apos.atName
      let (f, first) ← holding [ov] (getMethod ov m pl)
      callWith pos f first (backTo pos (starEach (e :: es) X.env)) (backToKw pos (keywordEach kws X.env))) := by rfl) : PE X (.Call (.Attribute o m apos) (e :: es) kws pos) (tMethN C m n ks.length sp gV ES ta t tk) := by
  obtain ⟨g, fd, gg, D, hkp, F, hb⟩ := O.ex
  exact pe_methN he c ⟨D.at_, D.fn, hkp⟩ F (hr.mono hk) hb hx ha hkw hall hks hst hpl ht
theorem pe_omk0 {pl : Sem Bool} (O : OMK X.prog X.w X.K X.mg X.base CX k C m ps sp n ks gV) (c : Cls X.K C) (hr : Room j X.A) (hk : k ≤ j) (hx : ∀ σ, PassesAt CX X σ (ES σ)) (he : PE X o ta) (hkw : PK X kws tk)
    (hall : (backToKw pos (keywordEach kws X.env)).all (·.1.isSome) = true := by rfl) (hks : (backToKw pos (keywordEach kws X.env)).filterMap (·.1) = ks := by rfl)
    (hpl : ((backTo pos (starEach [] X.env)).any (·.1) || (backToKw pos (keywordEach kws X.env)).any (·.1.isNone)) = false := by rfl)
    (ht : eval (.Call (.Attribute o m apos) [] kws pos) X.env = (do
      let ov ← eval o X.env
      standAt apos.atName
      let (f, first) ← holding [ov] (getMethod ov m pl)
      callWith pos f first (backTo pos (starEach [] X.env)) (backToKw pos (keywordEach kws X.env))) := by rfl) : PE X (.Call (.Attribute o m apos) [] kws pos) (tMethN C m n ks.length sp gV ES ta tNil tk) := by
  obtain ⟨g, fd, gg, D, hkp, F, hb⟩ := O.ex
  exact pe_methN0 he c ⟨D.at_, D.fn, hkp⟩ F (hr.mono hk) hb hx hkw hall hks hpl ht
/-- o.m(e, ..), which may raise, inside a try -/
theorem pe_oma {pl : Sem Bool} (O : OM X.prog X.w X.K X.mg X.base CX k C m ps sp) (c : Cls X.K C) (hr : Room j X.A) (hk : k ≤ j) (hx : ∀ σ, PassesAt CX X σ (ES σ)) (he : PE X o ta) (ha : PA X (e :: es) t)
    (hst : starEach (e :: es) X.env = (false, eval e X.env) :: starEach es X.env := by rfl) (hpl : (backTo pos (starEach es X.env)).any (·.1) = false := by rfl)
    (ht : eval (.Call (.Attribute o m apos) (e :: es) [] pos) X.env = (do
      let ov ← eval o X.env
      standAt apos.atName
      let (f, first) ← holding [ov] (getMethod ov m pl)
      callWith pos f first (backTo pos (starEach (e :: es) X.env)) (backToKw pos (keywordEach [] X.env))) := by rfl) : PE X (.Call (.Attribute o m apos) (e :: es) [] pos) (tMethA C m sp ES ta t) := by
  obtain ⟨g, fd, D, hkp, F, hb⟩ := O.ex
  exact pe_methA he c ⟨D.at_, D.fn, hkp⟩ F (hr.mono hk) hb hx ha hst hpl ht
end
end K02

set_option autoImplicit false
set_option maxRecDepth 100000
set_option maxHeartbeats 4000000
/-! terms shifted -/
namespace K02
open PySem PySem.Spec PyProof.Rows L2 KX
abbrev sShift : Stmt := inClass (topS 30) 11
abbrev nShift : List Str := ["self", "term", "shift", "made"]
theorem scShift : FnScope nShift ["self", "term", "shift"] (defScope sShift) := ⟨rfl, rfl, rfl, by decide +kernel, rfl, by decide +kernel, by decide +kernel⟩
/-- asked with an integer of at most sixty digits alone -/
def spShift (C CT : Addr) : Sp := fun vs H Q E => ∃ (p : Addr) (v1 v2 v3 : V) (ps : List (Str × Str)) (qs rs : List Str) (v : V) (d : PyData) (n : Int), vs = [.ref p, v, .int n] ∧ FrameAt C H p v1 v2 v3 ps qs rs ∧ Shw H v d ∧ isIg (.int n) = true ∧
  ((isTrm ps qs rs d && isTrm ps qs rs (upD n d)) = false → ∀ H', Same H H' → E (.ref CT) none H') ∧
  ((isTrm ps qs rs d && isTrm ps qs rs (upD n d)) = true → ∀ r H', Same H H' → Shw H' r (upD n d) → Q r H')
theorem isIg_int {d : PyData} (h : isIg d = true) : ∃ i, d = .int i := by
  cases d with
  | int i => exact ⟨i, rfl⟩
  | _ => cases h
theorem ends_pos {ps : List (Str × Str)} {qs rs own : List Str} {d : PyData} (h : isPos ps qs rs own d = true) : endsI d = true := by
  unfold isPos at h
  split at h
  · rw [Bool.and_eq_true] at h
    obtain ⟨i, rfl⟩ := isIg_int h.1
    rfl
  · cases h
theorem ends_val {ps : List (Str × Str)} {qs rs own : List Str} {d : PyData} (h : isVal ps qs rs own d = true) : endsI d = true := by
  unfold isVal at h
  split at h
  · rw [Bool.and_eq_true] at h
    obtain ⟨i, rfl⟩ := isIg_int h.1
    rfl
  · rename_i a b c n
    rw [Bool.and_eq_true] at h
    obtain ⟨i, rfl⟩ := isIg_int h.1
    cases b <;> rfl
  · cases h
theorem ends_trm {ps : List (Str × Str)} {qs rs : List Str} {d : PyData} (h : isTrm ps qs rs d = true) : endsI d = true := by
  unfold isTrm at h
  rw [Bool.or_eq_true] at h
  exact h.elim ends_pos ends_val
section
variable {P : Program} {w : World} {K : PySem.W.Frag} {mg : Str → Option Value} {base : Heap}
theorem ok_shift {f C CT : Addr} {fd : FuncData} (F : Fun K "shifted" "Frame.shifted" sShift f fd) (T : FrTxt K mg C) (M : MkP K mg "InvalidTerm" CT) (O : OM P w K mg base CX0 5 C "_is_term" ["self", "value"] (spTrm C))
    (I : Fnc P w K mg base CX0 2 "is_integer" ["value"] spIg) (R : Fnc P w K mg base CX0 1 "raised" ["term", "more"] spRaised) : FnOk P w K mg base (L2.CX P w) 6 f fd ["self", "term", "shift"] (spShift C CT) := by
  refine F.okX scShift (fun vs H Q E h => ?_) (fun cdv A outer s H vs Q E hr h => ?_)
  · obtain ⟨p, v1, v2, v3, ps, qs, rs, v, d, n, rfl, _⟩ := h
    rfl
  · obtain ⟨p, v1, v2, v3, ps, qs, rs, v, d, n, rfl, Fr, sh, ig, bad, good⟩ := h
    refine ⟨_, pss_cons (ps_if (pt_not (pt_val (pe_om (pl := _) O T.cl hr (by omega) pass0 (pv 0) (pa_cons (pv 1) pa_nil)))) (pss_one (ps_raise rfl (takes_of rfl rfl rfl rfl) (pmk_mkP M (by rfl)))) pss_nil)
      (pss_cons (ps_if (pt_not (pt_val (pe_fnc I hr (by omega) (by rfl) pass0 (pa_cons (pv 2) pa_nil)))) (pss_one ps_never) pss_nil)
      (pss_cons (ps_set (i := 3) scShift.nd rfl (.inl rfl) (pe_fnc R hr (by omega) (by rfl) pass0 (pa_cons (pv 1) (pa_cons (pv 2) pa_nil))))
      (pss_cons (ps_if (pt_not (pt_val (pe_om (pl := _) O T.cl hr (by omega) pass0 (pv 0) (pa_cons (pv 3) pa_nil)))) (pss_one (ps_raise rfl (takes_of rfl rfl rfl rfl) (pmk_mkP M (by rfl)))) pss_nil)
      (pss_one (ps_ret (pv 3)))))), ?_⟩
    obtain ⟨dx, t, d2, e4, ob, _⟩ := id Fr.ob
    refine ⟨.ref p, rfl, p, dx, _, rfl, ob, lookup_zip_none (by decide +kernel), v, rfl, p, v1, v2, v3, ps, qs, rs, v, d, rfl, Fr, sh, fun H1 w1 => ⟨_, rfl, ?_⟩⟩
    cases e1 : isTrm ps qs rs d with
    | false =>
      rw [e1] at bad
      exact bad rfl H1 w1
    | true =>
      refine ⟨.int n, rfl, .int n, .int n, rfl, .int n, ⟨isIg (.int n), rfl, ?_⟩⟩
      rw [ig]
      refine ⟨v, rfl, .int n, rfl, v, d, n, rfl, Shw.same sh w1, ends_trm e1, fun r H2 w2 s2 => ?_⟩
      have w12 := w1.trans w2
      refine ⟨.ref p, rfl, p, dx, _, rfl, w12 _ _ ob, lookup_zip_none (by decide +kernel), r, rfl, p, v1, v2, v3, ps, qs, rs, r, upD n d, rfl, Fr.same w12, s2, fun H3 w3 => ⟨_, rfl, ?_⟩⟩
      rw [e1] at bad good
      cases e2 : isTrm ps qs rs (upD n d) with
      | false =>
        rw [e2] at bad
        exact bad rfl H3 (w12.trans w3)
      | true =>
        rw [e2] at good
        refine ite2 (fun h => absurd h (by decide)) (fun _ => ?_)
        exact ⟨r, rfl, good rfl r H3 (w12.trans w3) (Shw.same s2 w3)⟩
end
end K02

set_option autoImplicit false
set_option maxRecDepth 100000
set_option maxHeartbeats 4000000
/-! a frame with more names -/
namespace K02
open PySem PySem.Spec PyProof.Rows L2 KX
section
variable {K : PySem.W.Frag} {H : Hp} {Q : VK} {x y : V} {ds es : List PyData}
theorem shw_tup {d : List PyData} (h : Shw H x (.tuple d)) : ∃ a xs, x = .ref a ∧ H a = some (.tup xs) ∧ ShwAll H xs d := by
  cases h with
  | tup e r => exact ⟨_, _, rfl, e, r⟩
theorem ShwAll.append : ∀ {xs ys : List V} {ds es : List PyData}, ShwAll H xs ds → ShwAll H ys es → ShwAll H (xs ++ ys) (ds ++ es)
  | _, _, _, _, .nil, h => h
  | _, _, _, _, .cons a r, h => .cons a (ShwAll.append r h)
/-- t + u -/
theorem cat_shw (h1 : Shw H x (.tuple ds)) (h2 : Shw H y (.tuple es)) (few : ds.length + es.length ≤ sizeLine) (q : ∀ r H', Same H H' → Shw H' r (.tuple (ds ++ es)) → Q r H') : rCatA K x y H Q := by
  obtain ⟨a, xs, rfl, ea, ra⟩ := shw_tup h1
  obtain ⟨b, ys, rfl, eb, rb⟩ := shw_tup h2
  have la := ShwAll.len ra
  have lb := ShwAll.len rb
  refine ⟨a, b, xs, ys, rfl, rfl, SqT.of ea, SqT.of eb, by rw [la, lb]; exact few, fun z => ?_, fun _ z => ?_, fun _ _ p np => ?_⟩
  · refine q _ H (Same.refl H) ?_
    subst z
    have : ds = [] := List.length_eq_zero_iff.mp (by rw [← la]; rfl)
    subst this
    exact h2
  · refine q _ H (Same.refl H) ?_
    subst z
    have : es = [] := List.length_eq_zero_iff.mp (by rw [← lb]; rfl)
    subst this
    rw [List.append_nil]
    exact h1
  · have sm := same_upd (p := p) (o := .tup (xs ++ ys)) np
    exact q _ _ sm (.tup upd_same (ShwAll.append (ShwAll.same ra sm) (ShwAll.same rb sm)))
end
abbrev sWith : Stmt := inClass (topS 30) 13
abbrev nWith : List Str := ["self", "arrays", "positions", "values"]
theorem scWith : FnScope nWith nWith (defScope sWith) := ⟨rfl, rfl, rfl, by decide +kernel, rfl, by decide +kernel, by decide +kernel⟩
def spWith (C CI : Addr) : Sp := fun vs H Q E => ∃ (p : Addr) (v1 v2 v3 x1 x2 x3 : V) (ps ps2 : List (Str × Str)) (qs rs qs2 rs2 : List Str), vs = [.ref p, x1, x2, x3] ∧ FrameAt C H p v1 v2 v3 ps qs rs ∧ Arr H x1 ps2 ∧ Txts H x2 qs2 ∧ Txts H x3 rs2 ∧
  ps.length + ps2.length ≤ 1000 ∧ qs.length + qs2.length ≤ 1000 ∧ rs.length + rs2.length ≤ 1000 ∧
  gd (.tuple ((ps ++ ps2).map prD)) = true ∧ gd (.tuple ((qs ++ qs2).map PyData.str)) = true ∧ gd (.tuple ((rs ++ rs2).map PyData.str)) = true ∧
  (isFrame (.tuple ((ps ++ ps2).map prD)) (.tuple ((qs ++ qs2).map PyData.str)) (.tuple ((rs ++ rs2).map PyData.str)) = false → ∀ H', Same H H' → E (.ref CI) none H') ∧
  (isFrame (.tuple ((ps ++ ps2).map prD)) (.tuple ((qs ++ qs2).map PyData.str)) (.tuple ((rs ++ rs2).map PyData.str)) = true → ∀ p' u1 u2 u3 H', Same H H' → FrameAt C H' p' u1 u2 u3 (ps ++ ps2) (qs ++ qs2) (rs ++ rs2) → Q (.ref p') H')
section
variable {P : Program} {w : World} {K : PySem.W.Frag} {mg : Str → Option Value} {base : Heap}
theorem ok_with {f C CI : Addr} {fd : FuncData} {dvs : List V} {kws : List (Str × V)} (F : FunD K "with_names" "Frame.with_names" (defArgs sWith) (defBody sWith) (defScope sWith) dvs kws f fd)
    (T : FrTxt K mg C) (B : Free mg) (M : MkF P w K mg base C CI) : FnOk P w K mg base (L2N.CX P w) 7 f fd nWith (spWith C CI) := by
  obtain ⟨gF, fI, fdI, M, FI, hb⟩ := M
  refine F.ok scWith (fun vs H Q E h => ?_) (fun cdv A outer s H vs Q E hr h => ?_)
  · obtain ⟨p, v1, v2, v3, x1, x2, x3, ps, ps2, qs, rs, qs2, rs2, rfl, _⟩ := h
    rfl
  · obtain ⟨p, v1, v2, v3, x1, x2, x3, ps, ps2, qs, rs, qs2, rs2, rfl, Fr, y1, y2, y3, l1, l2, l3, g1, g2, g3, bad, good⟩ := h
    refine ⟨_, pss_cons (ps_if (PW.pt (pw_or (pt_not (pt_val (pe_callB call_isi (by rfl) B.isinstance (by decide +kernel) (pa_cons (pv 1) (pa_cons (pe_bltn (v := .ty "tuple") (by rfl) B.tuple (by decide +kernel) rfl) pa_nil)))))
          (pw_or (pt_not (pt_val (pe_callB call_isi (by rfl) B.isinstance (by decide +kernel) (pa_cons (pv 2) (pa_cons (pe_bltn (v := .ty "tuple") (by rfl) B.tuple (by decide +kernel) rfl) pa_nil)))))
          (pw_or1 (pt_not (pt_val (pe_callB call_isi (by rfl) B.isinstance (by decide +kernel) (pa_cons (pv 3) (pa_cons (pe_bltn (v := .ty "tuple") (by rfl) B.tuple (by decide +kernel) rfl) pa_nil)))))))))
        (pss_one ps_never) pss_nil)
      (pss_one (ps_ret (pe_makeS M FI hr (by rfl) gF hb (fun σ => L2N.passAt (W := fun cls d _ H => E cls d H) (L2N.takes_of rfl rfl rfl rfl) σ)
        (pa_cons (pe_op op_catA (pe_fld (pv 0) rfl) (pv 1)) (pa_cons (pe_op op_catA (pe_fld (pv 0) rfl) (pv 2)) (pa_cons (pe_op op_catA (pe_fld (pv 0) rfl) (pv 3)) pa_nil)))))), ?_⟩
    have s1 : Shw H x1 (.tuple (ps2.map prD)) := y1
    have s2 := txts_shw y2
    have s3 := txts_shw y3
    refine ⟨x1, rfl, x1, .ty "tuple", _, _, true, rfl, .ty _, shw_ty s1, kit_ty (kit_tup _), true, rfl, ?_⟩
    refine ⟨x2, rfl, x2, .ty "tuple", _, _, true, rfl, .ty _, shw_ty s2, kit_ty (kit_tup _), true, rfl, ?_⟩
    refine ⟨x3, rfl, x3, .ty "tuple", _, _, true, rfl, .ty _, shw_ty s3, kit_ty (kit_tup _), true, rfl, ?_⟩
    obtain ⟨dx, t, d2, e4, ob, _⟩ := id Fr.ob
    refine ⟨.ref p, rfl, p, C, dx, _, v1, rfl, ob, T.cl, T.no _ (by decide +kernel), lookup_zip (i := 0) (by decide +kernel) rfl, x1, rfl, cat_shw Fr.ar s1 (by rw [List.length_map, List.length_map, sizeLine_eq]; omega) fun r1 H1 w1 a1 => ?_⟩
    refine ⟨.ref p, rfl, p, C, dx, _, v2, rfl, w1 _ _ ob, T.cl, T.no _ (by decide +kernel), lookup_zip (i := 1) (by decide +kernel) rfl, x2, rfl, cat_shw (Shw.same (txts_shw Fr.po) w1) (Shw.same s2 w1) (by rw [List.length_map, List.length_map, sizeLine_eq]; omega) fun r2 H2 w2 a2 => ?_⟩
    have w12 := w1.trans w2
    refine ⟨.ref p, rfl, p, C, dx, _, v3, rfl, w12 _ _ ob, T.cl, T.no _ (by decide +kernel), lookup_zip (i := 2) (by decide +kernel) rfl, x3, rfl, cat_shw (Shw.same (txts_shw Fr.va) w12) (Shw.same s3 w12) (by rw [List.length_map, List.length_map, sizeLine_eq]; omega) fun r3 H3 w3 a3 => ?_⟩
    have w13 := w12.trans w3
    rw [← List.map_append] at a1 a2 a3
    intro x dx' nx ndx ne
    have sm := (same_upd (p := dx') (o := .own x) ndx).trans (same_upd (p := x) (o := .ins C dx' []) (by rw [upd_ne ne.symm]; exact nx))
    refine ⟨x, dx', r1, r2, r3, _, _, _, rfl, upd_same, Shw.same a1 ((w2.trans w3).trans sm), Shw.same a2 (w3.trans sm), Shw.same a3 sm, g1, g2, g3, fun z H' w' => bad z H' (w13.trans (sm.trans w')), fun z H' kp Fr' => ⟨rfl, ?_⟩⟩
    rw [prs_back, strs_back, strs_back] at Fr'
    exact good z x r1 r2 r3 H' (fun b o e => kp b o (sm _ _ (w13 _ _ e)) (ne_of_none (w13 _ _ e) nx)) Fr'
end
end K02

set_option autoImplicit false
set_option maxRecDepth 100000
set_option maxHeartbeats 4000000
/-! other names -/
namespace K02
open PySem PySem.Spec PyProof.Rows L2 KX
/-- the word's new name -/
def ren (cs : List (Str × Str)) (z : Str) : Str := ((cs.find? fun c => decide (c.1 = z)).map (·.2)).getD z
def renP (cs : List (Str × Str)) (p : Str × Str) : Str × Str := (ren cs p.1, ren cs p.2)
theorem ren_val (cs : List (Str × Str)) (z : Str) : (valV (lenK cs) (.inr z)).getD (.str z) = .str (ren cs z) := by
  induction cs with
  | nil => rfl
  | cons c cs ih =>
    unfold ren at ih ⊢
    show (valV (((.inr c.1 : Key), V.str c.2) :: lenK cs) (.inr z)).getD _ = _
    by_cases e : c.1 = z
    · subst e
      rw [valV_pos rfl, List.find?_cons, decide_eq_true rfl]
      rfl
    · have e2 : ¬ ((Sum.inr c.1 : Key) = Sum.inr z) := fun h => e (Sum.inr.inj h)
      rw [valV_neg e2, List.find?_cons, decide_eq_false e]
      exact ih
theorem ren_in {cs : List (Str × Str)} {z : Str} {W : List Str} (h : ∀ c ∈ cs, c.2 ∈ W) (hz : z ∈ W) : ren cs z ∈ W := by
  unfold ren
  cases e : cs.find? fun c => decide (c.1 = z) with
  | none => exact hz
  | some c => exact h c (List.mem_of_find?_eq_some e)
theorem inj_nd {f : Str → Str} : ∀ {zs : List Str}, (zs.map f).Nodup → ∀ a ∈ zs, ∀ b ∈ zs, f a = f b → a = b
  | [], _, a, ha, _, _, _ => nomatch ha
  | z :: zs, n, a, ha, b, hb, e => by
    rw [List.map_cons, List.nodup_cons] at n
    rcases List.mem_cons.mp ha with h1 | h1
    · rcases List.mem_cons.mp hb with h2 | h2
      · rw [h1, h2]
      · exact absurd (List.mem_map.mpr ⟨b, h2, by rw [← e, h1]⟩) n.1
    · rcases List.mem_cons.mp hb with h2 | h2
      · exact absurd (List.mem_map.mpr ⟨a, h1, by rw [e, h2]⟩) n.1
      · exact inj_nd n.2 a h1 b h2 e
theorem onceS_in {z : Str} : ∀ {zs : List Str}, z ∈ zs → z ∈ onceS zs := fun {zs} => by
  have go : ∀ (l acc : List Str), (z ∈ acc ∨ z ∈ l) → z ∈ l.foldl (fun acc k => if k ∈ acc then acc else acc ++ [k]) acc := fun l => by
    induction l with
    | nil => exact fun acc h => h.elim id fun h => nomatch h
    | cons k l ih =>
      intro acc h
      rw [List.foldl_cons]
      refine ih _ ?_
      by_cases e : k ∈ acc
      · rw [if_pos e]
        rcases h with h | h
        · exact .inl h
        · rcases List.mem_cons.mp h with rfl | h
          · exact .inl e
          · exact .inr h
      · rw [if_neg e]
        rcases h with h | h
        · exact .inl (List.mem_append_left _ h)
        · rcases List.mem_cons.mp h with rfl | h
          · exact .inl (List.mem_append_right _ List.mem_cons_self)
          · exact .inr h
  exact fun h => go zs [] (.inr h)
theorem onceS_map {f : Str → Str} : ∀ (l acc : List Str), (∀ a ∈ acc ++ l, ∀ b ∈ acc ++ l, f a = f b → a = b) →
    (l.map f).foldl (fun acc k => if k ∈ acc then acc else acc ++ [k]) (acc.map f) = (l.foldl (fun acc k => if k ∈ acc then acc else acc ++ [k]) acc).map f
  | [], acc, _ => rfl
  | k :: l, acc, h => by
    rw [List.map_cons, List.foldl_cons, List.foldl_cons]
    have kin : k ∈ acc ++ k :: l := List.mem_append_right _ List.mem_cons_self
    by_cases e : k ∈ acc
    · rw [if_pos e, if_pos (List.mem_map.mpr ⟨k, e, rfl⟩)]
      exact onceS_map l acc fun a ha b hb => h a ((List.mem_append.mp ha).elim (List.mem_append_left _) fun x => List.mem_append_right _ (List.mem_cons_of_mem _ x)) b
        ((List.mem_append.mp hb).elim (List.mem_append_left _) fun x => List.mem_append_right _ (List.mem_cons_of_mem _ x))
    · have e2 : ¬ f k ∈ acc.map f := fun m => by
        obtain ⟨a, ha, ea⟩ := List.mem_map.mp m
        exact e (h a (List.mem_append_left _ ha) k kin ea ▸ ha)
      rw [if_neg e, if_neg e2]
      have := onceS_map (f := f) l (acc ++ [k]) (by rw [List.append_assoc]; exact h)
      rw [List.map_append] at this
      exact this
theorem lens_ren {cs : List (Str × Str)} {ps : List (Str × Str)} (h : ∀ a ∈ ps.map (·.2), ∀ b ∈ ps.map (·.2), ren cs a = ren cs b → a = b) : lensOf (ps.map (renP cs)) = (lensOf ps).map (ren cs) := by
  unfold lensOf
  rw [show (ps.map (renP cs)).map (·.2) = (ps.map (·.2)).map (ren cs) by rw [List.map_map, List.map_map]; rfl]
  exact onceS_map (f := ren cs) (ps.map (·.2)) [] (by rw [List.nil_append]; exact h)
theorem words_ren {cs : List (Str × Str)} {ps : List (Str × Str)} {qs rs : List Str} (n : ((wordsOf ps qs rs).map (ren cs)).Nodup) :
    wordsOf (ps.map (renP cs)) (qs.map (ren cs)) (rs.map (ren cs)) = (wordsOf ps qs rs).map (ren cs) := by
  have inj := inj_nd n
  have mem : ∀ a ∈ ps.map (·.2), a ∈ wordsOf ps qs rs := fun a ha => List.mem_append_right _ (List.mem_append_left _ (onceS_in ha))
  unfold wordsOf
  rw [lens_ren fun a ha b hb => inj a (mem a ha) b (mem b hb)]
  simp only [List.map_append, List.map_map]
  rfl
/-- what is renamed well is right -/
theorem GoodQ.ren {cs : List (Str × Str)} {ps : List (Str × Str)} {qs rs : List Str} (g : GoodQ ps qs rs) (h : ∀ c ∈ cs, c.2 ∈ W18) (n : nodupW ((wordsOf ps qs rs).map (ren cs)) = true) : GoodQ (ps.map (renP cs)) (qs.map (K02.ren cs)) (rs.map (K02.ren cs)) := by
  have nd := (nodupW_is n).1
  refine ⟨⟨fun p hp => ?_, fun z hz => ?_, fun z hz => ?_⟩, by rw [List.length_map]; exact g.l1, by rw [List.length_map]; exact g.l2, by rw [List.length_map]; exact g.l3, by rw [words_ren nd]; exact nd⟩
  · obtain ⟨q, hq, rfl⟩ := List.mem_map.mp hp
    exact ⟨ren_in h (g.w.m1 q hq).1, ren_in h (g.w.m1 q hq).2⟩
  · obtain ⟨q, hq, rfl⟩ := List.mem_map.mp hz
    exact ren_in h (g.w.m2 q hq)
  · obtain ⟨q, hq, rfl⟩ := List.mem_map.mp hz
    exact ren_in h (g.w.m3 q hq)
theorem nodupW_lt (ws : List Str) (n : Nat) (h : ws.length = n) : decide (((once ws).length : Int) < (n : Int)) = !nodupW ws := by
  have e := once_le ws
  unfold nodupW
  have : once ws = onceS ws := rfl
  rw [this] at e ⊢
  by_cases z : (onceS ws).length = ws.length
  · rw [decide_eq_false (by omega), decide_eq_true (by omega)]
    rfl
  · rw [decide_eq_true (by omega), decide_eq_false (by omega)]
    rfl
theorem nodupW_eq (ws : List Str) : decide (((once ws).length : Int) = (ws.length : Int)) = nodupW ws := rfl
/-- old in self, where the dicts may be under a lock -/
def spInR (C : Addr) : Sp := fun vs H Q _ => ∃ (p dx e : Addr) (v1 v2 v3 v4 v5 : V) (ps : List (Str × Str)) (qs rs : List Str) (z : Str), vs = [.ref p, .str z] ∧ H p = some (.ins C dx (frN.zip [v1, v2, v3, v4, v5, .ref e])) ∧ Rd H e (.dK (kindsOf ps qs rs)) ∧ Q (.bl (decide (z ∈ wordsOf ps qs rs))) H
section
variable {P : Program} {w : World} {K : PySem.W.Frag} {mg : Str → Option Value} {base : Heap}
theorem ok_inR {f C : Addr} {fd : FuncData} (F : Fun K "__contains__" "Frame.__contains__" sIn f fd) (T : FrTxt K mg C) (B : Free mg) : FnOk P w K mg base CX0 1 f fd ["self", "value"] (spInR C) := by
  refine F.ok scIn (fun vs H Q E h => ?_) (fun cdv A outer s H vs Q E hr h => ?_)
  · obtain ⟨p, dx, e, v1, v2, v3, v4, v5, ps, qs, rs, z, rfl, _⟩ := h
    rfl
  · obtain ⟨p, dx, e, v1, v2, v3, v4, v5, ps, qs, rs, z, rfl, ob, hk, q⟩ := h
    have hu := hu_of hr
    refine ⟨_, pss_one (ps_ret (pe_and (pe_callB call_isi (by rfl) B.isinstance (by decide +kernel) (pa_cons (pv 1) (pa_cons (pe_bltn (v := .ty "str") (by rfl) B.str (by decide +kernel) rfl) pa_nil)))
      (pe_one (pe_cmp (pc_din hu (pv 1) (pe_fld (pv 0) rfl)))))), ?_⟩
    refine ⟨.str z, rfl, .str z, .ty "str", _, _, true, rfl, .ty _, shw_ty (.str z), kit_ty (kit_strD (.str z)), true, rfl, ?_⟩
    refine ⟨_, rfl, _, rfl, p, C, dx, _, .ref e, rfl, ob, T.cl, T.no _ (by decide +kernel), lookup_zip (i := 5) (by decide +kernel) rfl, e, _, rfl, .inl ⟨_, .inr z, hk, rfl, rfl⟩, ?_⟩
    rw [kinds_some]
    exact q
theorem rd_lock {H : Hp} {a b : Addr} {u1 u2 : HO} {od : Obj} (h1 : H a = some u1) (h2 : H b = some u2) : Rd (upd H b (.frz od u2)) a u1 := by
  by_cases e : a = b
  · subst e
    rw [h1] at h2
    cases h2
    exact .inr ⟨od, upd_same⟩
  · exact .inl (by rw [upd_ne e]; exact h1)
theorem Rd.same {H H' : Hp} {a : Addr} {u : HO} (r : Rd H a u) (s : Same H H') : Rd H' a u := r.elim (fun h => .inl (s _ _ h)) fun ⟨o, h⟩ => .inr ⟨o, s _ _ h⟩
theorem off_lock {H : Hp} {a b : Addr} {u1 u2 : HO} {od : Obj} (h1 : H a = some u1) (h2 : H b = some u2) (n : u1 ≠ u2) : (upd H b (.frz od u2)) a = some u1 := by
  rw [upd_ne fun e => by subst e; rw [h1] at h2; exact n (Option.some.inj h2)]
  exact h1
end
end K02

set_option autoImplicit false
set_option maxRecDepth 100000
set_option maxHeartbeats 4000000
/-! renamed, statement by statement -/
namespace K02
open PySem PySem.Spec PyProof.Rows L2 KX
abbrev sRen : Stmt := inClass (topS 30) 14
abbrev nRen : List Str := ["self", "names", "old", "new", "word", "arrays", "array", "length", "positions"]
theorem scRen : FnScope nRen ["self", "names"] (defScope sRen) := ⟨rfl, rfl, rfl, by decide +kernel, rfl, by decide +kernel, by decide +kernel⟩
def stRn (i : Nat) : Stmt := (defBody sRen).getD i (.Pass ⟨0, 0, 0, 0⟩)
abbrev XRn (P : Program) (w : World) (K : PySem.W.Frag) (mg : Str → Option Value) (base : Heap) (f : Addr) (cdv : Value) (A : Around) (outer : List Env) (s0 : Shared) (H0 : Hp) (E : XK) : Cx := cxOf (L2.CX P w) P w K mg base nRen "Frame.renamed" (defScope sRen) f cdv A outer s0 H0 E
structure RN (P : Program) (w : World) (K : PySem.W.Frag) (mg : Str → Option Value) (base : Heap) (C CO CI : Addr) : Prop where
  T : FrTxt K mg C
  B : Free mg
  bd : mg "dict" = none
  N : Fnc P w K mg base CX0 1 "is_name" ["value"] (spName K)
  isIn : OM P w K mg base CX0 1 C "__contains__" ["self", "value"] (spInR C)
  len : OM P w K mg base CX0 1 C "__len__" ["self"] (spLen C)
  mo : MkP K mg "InvalidOperation" CO
  mkf : MkF P w K mg base C CI
/-- the frame, and the dict with other names -/
structure RnS (C p e : Addr) (v1 v2 v3 : V) (ps : List (Str × Str)) (qs rs : List Str) (cs : List (Str × Str)) (H : Hp) : Prop where
  Fr : FrameAt C H p v1 v2 v3 ps qs rs
  he : H e = some (.dK (lenK cs))
  few : cs.length ≤ 1000
  nm : ∀ c ∈ cs, c.1 ∈ wordsOf ps qs rs ∧ c.2 ∈ W18
  g : GoodQ ps qs rs
theorem RnS.same {C p e : Addr} {v1 v2 v3 : V} {ps : List (Str × Str)} {qs rs : List Str} {cs : List (Str × Str)} {H H' : Hp} (h : RnS C p e v1 v2 v3 ps qs rs cs H) (s : Same H H') : RnS C p e v1 v2 v3 ps qs rs cs H' := ⟨h.Fr.same s, s _ _ h.he, h.few, h.nm, h.g⟩
theorem lenK_get {cs : List (Str × Str)} {i : Nat} {k v : V} (h1 : ((lenK cs)[i]?.map fun kv => kV kv.1) = some k) (h2 : ((lenK cs)[i]?.map Prod.snd) = some v) : ∃ c, cs[i]? = some c ∧ k = .str c.1 ∧ v = .str c.2 := by
  unfold lenK at h1 h2
  rw [List.getElem?_map] at h1 h2
  cases e : cs[i]? with
  | none => rw [e] at h1; cases h1
  | some c =>
    rw [e] at h1 h2
    cases h1
    cases h2
    exact ⟨c, rfl, rfl, rfl⟩
section
variable {P : Program} {w : World} {K : PySem.W.Frag} {mg : Str → Option Value} {base : Heap} {C CO CI f : Addr} {cdv : Value} {A : Around} {outer : List Env} {s0 : Shared} {H0 : Hp} {E : XK} {k : Nat}
def rn0 (C : Addr) : TS := fun D σ H => ∃ (p e : Addr) (v1 v2 v3 : V) (ps : List (Str × Str)) (qs rs : List Str) (cs : List (Str × Str)), σ = [some (.ref p), some (.ref e), none, none, none, none, none, none, none] ∧ RnS C p e v1 v2 v3 ps qs rs cs H ∧ ∀ H', Same H H' → D.nx σ H'
theorem ren0 (R : RN P w K mg base C CO CI) (hr : Room k (A.deeper (envOfC "Frame.renamed" (defScope sRen) s0.heap.objs.size f cdv))) (hk : 7 ≤ k) : PS (XRn P w K mg base f cdv A outer s0 H0 E) (stRn 0) (rn0 C) := by
  refine ps_imp (ps_if (PW.pt (pw_or (pt_not (pt_val (pe_callB call_isi (by rfl) R.B.isinstance (by decide +kernel) (pa_cons (pv 1) (pa_cons (pe_bltn (v := .ty "dict") (by rfl) R.bd (by decide +kernel) rfl) pa_nil)))))
      (pw_or1 (pt_not (pt_val (pe_callB (cr_all rfl) (by rfl) R.B.all (by decide +kernel) (pa_cons (pe_lock (pe_lc (own := [("old", 2), ("new", 3)]) (g := gTup K 2 (gCons (gName 2) (gCons (gName 3) gNil))) (tt := tYes) rfl scRen.nd (pi_items (pv 1)) (blkOk_by (N := nRen) (sc := defScope sRen) (by decide +kernel))
        (fun _ _ _ _ _ => pg_tup rfl (pgs_cons (pg_name (i := 2) scRen.nd rfl (Or.inl rfl) (Or.inr rfl)) (pgs_cons (pg_name (i := 3) scRen.nd rfl (Or.inl rfl) (Or.inr rfl)) pgs_nil))) (fun _ _ _ _ _ => pts_nil)
        (fun _ _ _ _ _ => pe_and (pe_cmpR (R.isIn.isIn hr (by omega) pass0) (pv 2) (pv 0) (by with_unfolding_all rfl)) (pe_one (pe_fnc R.N hr (by omega) (by rfl) pass0 (pa_cons (pv 3) pa_nil)))))) pa_nil)))))))
    (pss_one ps_never) pss_nil) ?_
  rintro D σ H ⟨p, e, v1, v2, v3, ps, qs, rs, cs, rfl, S, q⟩
  refine ⟨.ref e, rfl, .ref e, .ty "dict", _, _, true, rfl, .ty _, .base (.dK S.he), kit_ty (by show kitB "dict" "dict" = some true; decide +kernel), true, rfl, ?_⟩
  refine ⟨e, .dK (lenK cs), S.he, trivial, fun od => ?_⟩
  obtain ⟨dx, t, d2, e4, ob, _, _, hk'⟩ := id S.Fr.ob
  refine ⟨_, rfl, e, od, lenK cs, rfl, upd_same, fun L nL => ?_⟩
  have nLe : L ≠ e := fun z => by rw [z, upd_same] at nL; cases nL
  have pe : p ≠ e := fun z => by rw [z, S.he] at ob; cases ob
  have pL : p ≠ L := fun z => by
    rw [← z, upd_ne pe, ob] at nL
    cases nL
  refine lc_it walk_items (fun m H' => Same (upd H e (.frz od (.dK (lenK cs)))) H' ∧ H' L = some (.lst ((cs.take m).map fun _ => V.bl true))) ⟨same_upd nL, by rw [List.take_zero]; exact upd_same⟩ (fun m H' _ hP => hP.1 _ _ upd_same) (fun m x H1 H2 hm hP hy => ?_) (fun H' hP => ?_)
  · obtain ⟨s1, d1⟩ := hP
    obtain ⟨T, k1, k2, rfl, nT, rfl, hk1, hk2⟩ := hy
    obtain ⟨c, hc, rfl, rfl⟩ := lenK_get hk1 hk2
    have sT := same_upd (p := T) (o := .tup [V.str c.1, V.str c.2]) nT
    have s2 := s1.trans sT
    have cm := S.nm c (List.mem_of_getElem? hc)
    refine ⟨T, _, rfl, SqT.of upd_same, rfl, _, _, rfl, _, _, rfl, rfl, rfl, ?_⟩
    refine ⟨.str c.1, rfl, .ref p, rfl, p, dx, _, rfl, s2 _ _ (by rw [upd_ne pe]; exact ob), p, dx, e4, v1, v2, v3, .ref t, .ref d2, ps, qs, rs, c.1, rfl, s2 _ _ (by rw [upd_ne pe]; exact ob), Rd.same (rd_lock hk' S.he) s2, ⟨_, rfl, _, rfl, ?_⟩⟩
    have em : decide (c.1 ∈ wordsOf ps qs rs) = true := decide_eq_true cm.1
    rw [Bool.false_xor, em]
    refine ⟨.str c.2, rfl, .str c.2, true, rfl, ?_, fun H4 s4 => ?_⟩
    · have z := shw_name (K := K) (H := upd H1 T (.tup [V.str c.1, V.str c.2])) (d := .str c.2) (.str c.2) (W18_gd _ cm.2)
      rw [show isNm (.str c.2) = true from W18_nm _ cm.2] at z
      exact z
    · have s5 := sT.trans s4
      refine ⟨_, s5 _ _ d1, ?_, fun b o eb => ?_, ?_⟩
      · rw [List.length_map, List.length_take, sizeLine_eq]
        have := S.few
        omega
      · rw [upd_ne (ne_of_none eb nL)]
        exact s5 _ _ (s1 _ _ eb)
      · rw [upd_same, List.take_add_one, hc, List.map_append]
        rfl
  · obtain ⟨s1, d1⟩ := hP
    have ll : (lenK cs).length = cs.length := by unfold lenK; rw [List.length_map]
    rw [ll, List.take_length] at d1
    refine ⟨s1 _ _ upd_same, ?_⟩
    have un := unlock_same S.he s1
    refine ⟨L, cs.map fun _ => true, rfl, SqL.of (by rw [upd_ne nLe, d1, List.map_map]; rfl), ?_⟩
    have ea : (cs.map fun _ => true).all id = true := by
      rw [List.all_map]
      exact List.all_eq_true.mpr fun _ _ => rfl
    rw [ea]
    exact ⟨_, rfl, q _ un⟩
end
end K02

set_option autoImplicit false
set_option maxRecDepth 100000
set_option maxHeartbeats 4000000
/-! renamed: the rest -/
namespace K02
open PySem PySem.Spec PyProof.Rows L2 KX
section
variable {P : Program} {w : World} {K : PySem.W.Frag} {mg : Str → Option Value} {base : Heap} {C CO CI f : Addr} {cdv : Value} {A : Around} {outer : List Env} {s0 : Shared} {H0 : Hp} {E : XK} {k : Nat}
theorem kinds_get {ps : List (Str × Str)} {qs rs : List Str} {i : Nat} {k : Key} {v : V} (h : (kindsOf ps qs rs)[i]? = some (k, v)) : ∃ z, (wordsOf ps qs rs)[i]? = some z ∧ k = .inr z := by
  have e := congrArg (fun l => l[i]?) (kinds_keys ps qs rs)
  simp only [List.getElem?_map] at e
  rw [h] at e
  cases z : (wordsOf ps qs rs)[i]? with
  | none => rw [z] at e; cases e
  | some y =>
    rw [z] at e
    exact ⟨y, rfl, Option.some.inj e⟩
def rn1 (C CO : Addr) (E : XK) : TS := fun D σ H => ∃ (p e : Addr) (v1 v2 v3 : V) (ps : List (Str × Str)) (qs rs : List Str) (cs : List (Str × Str)), σ = [some (.ref p), some (.ref e), none, none, none, none, none, none, none] ∧ RnS C p e v1 v2 v3 ps qs rs cs H ∧
  (nodupW ((wordsOf ps qs rs).map (ren cs)) = false → ∀ H', Same H H' → E (.ref CO) none H') ∧ (nodupW ((wordsOf ps qs rs).map (ren cs)) = true → ∀ H', Same H H' → D.nx σ H')
theorem GoodQ.few {ps : List (Str × Str)} {qs rs : List Str} (g : GoodQ ps qs rs) : (wordsOf ps qs rs).length ≤ 40 := by
  have l1 := g.l1
  have l2 := g.l2
  have l3 := g.l3
  have l4 := lensOf_le ps
  unfold wordsOf
  simp only [List.length_append, List.length_map]
  omega
theorem ren1 (R : RN P w K mg base C CO CI) (hr : Room k (A.deeper (envOfC "Frame.renamed" (defScope sRen) s0.heap.objs.size f cdv))) (hk : 7 ≤ k) : PS (XRn P w K mg base f cdv A outer s0 H0 E) (stRn 1) (rn1 C CO E) := by
  have hu := hu_of hr
  refine ps_imp (ps_if (pt_cmpR op_lt (pe_lenWords (by rfl) R.B.len (by rfl) R.B.set (pe_lock (pe_lc (own := [("word", 4)]) (g := gName 4) (tt := tYes) rfl scRen.nd (pi_keys (pe_fld (pv 0) rfl)) (blkOk_by (N := nRen) (sc := defScope sRen) (by decide +kernel))
        (fun _ _ _ _ _ => pg_name (i := 4) scRen.nd rfl (Or.inl rfl) (Or.inr rfl)) (fun _ _ _ _ _ => pts_nil)
        (fun _ _ _ _ _ => pe_dget2 hu (pv 1) (pv 4) (pv 4) ⟨rfl, rfl, rfl, rfl⟩))))
      (pe_callB (R.len.len hr (by omega) pass0) (by rfl) R.B.len PySem.boot_len (pa_cons (pv 0) pa_nil)) (nomark _))
    (pss_one (ps_raise rfl (takes_of rfl rfl rfl rfl) (pmk_mkP R.mo (by rfl)))) pss_nil) ?_
  rintro D σ H ⟨p, e, v1, v2, v3, ps, qs, rs, cs, rfl, S, bad, good⟩
  obtain ⟨dx, t, d2, e4, ob, ht, hd, hk'⟩ := id S.Fr.ob
  have pe : p ≠ e4 := fun z => by rw [z, hk'] at ob; cases ob
  refine ⟨e4, .dK (kindsOf ps qs rs), hk', trivial, fun od => ?_⟩
  refine ⟨.ref p, rfl, p, C, dx, frN.zip [v1, v2, v3, .ref t, .ref d2, .ref e4], .ref e4, rfl, by rw [upd_ne pe]; exact ob, R.T.cl, R.T.no _ (by decide +kernel), lookup_zip (i := 5) (by decide +kernel) rfl, e4, od, rfl, .inl ⟨kindsOf ps qs rs, upd_same, fun L nL => ?_⟩⟩
  have nLe : L ≠ e4 := fun z => by rw [z, upd_same] at nL; cases nL
  have fw := S.g.few
  refine lc_it walk_keys (fun m H' => Same (upd H e4 (.frz od (.dK (kindsOf ps qs rs)))) H' ∧ H' L = some (.lst (((wordsOf ps qs rs).take m).map fun z => V.str (ren cs z)))) ⟨same_upd nL, by rw [List.take_zero]; exact upd_same⟩ (fun m H' _ hP => hP.1 _ _ upd_same) (fun m x H1 H2 hm hP hy => ?_) (fun H' hP => ?_)
  · obtain ⟨s1, d1⟩ := hP
    obtain ⟨rfl, ky, vv, hy, rfl⟩ := hy
    obtain ⟨z, hz, rfl⟩ := kinds_get hy
    have rd := Rd.same (rd_lock (od := od) S.he hk') s1
    refine ⟨rfl, .ref e, rfl, e, rfl, .inl ⟨_, rd⟩, .str z, rfl, .str z, rfl, _, .inl ⟨_, .inr z, rd, rfl, rfl⟩, ?_⟩
    rw [ren_val]
    refine ⟨_, d1, ?_, fun b o eb => ?_, ?_⟩
    · rw [List.length_map, List.length_take, sizeLine_eq]
      omega
    · rw [upd_ne (ne_of_none eb nL)]
      exact s1 _ _ eb
    · rw [upd_same, List.take_add_one, hz, List.map_append]
      rfl
  · obtain ⟨s1, d1⟩ := hP
    rw [kinds_len, List.take_length] at d1
    refine ⟨s1 _ _ upd_same, ?_⟩
    have un := unlock_same hk' s1
    have d2 : (upd H' e4 (.dK (kindsOf ps qs rs))) L = some (.lst ((((wordsOf ps qs rs).map (ren cs))).map V.str)) := by rw [upd_ne nLe, d1, List.map_map]; rfl
    generalize upd H' e4 (.dK (kindsOf ps qs rs)) = H2 at un d2 ⊢
    have S2 := S.same un
    refine ⟨L, (wordsOf ps qs rs).map (ren cs), rfl, .inl (SqL.of d2), by rw [List.length_map]; omega, ?_⟩
    refine ⟨.ref p, rfl, p, dx, _, rfl, un _ _ ob, p, v1, v2, v3, ps, qs, rs, rfl, S2.Fr, (wordsOf ps qs rs).length, rfl, by omega, ?_⟩
    refine ⟨_, _, rfl, rfl, _, rfl, ?_⟩
    rw [nodupW_lt _ _ (by rw [List.length_map])]
    cases en : nodupW ((wordsOf ps qs rs).map (ren cs)) with
    | false => exact bad en H2 un
    | true => exact good en H2 un
end
end K02

set_option autoImplicit false
set_option maxRecDepth 100000
set_option maxHeartbeats 4000000
/-! renamed: its end -/
namespace K02
open PySem PySem.Spec PyProof.Rows L2 KX
def spRen (C CO : Addr) : Sp := fun vs H Q E => ∃ (p e : Addr) (v1 v2 v3 : V) (ps : List (Str × Str)) (qs rs : List Str) (cs : List (Str × Str)), vs = [.ref p, .ref e] ∧ RnS C p e v1 v2 v3 ps qs rs cs H ∧
  (nodupW ((wordsOf ps qs rs).map (ren cs)) = false → ∀ H', Same H H' → E (.ref CO) none H') ∧
  (nodupW ((wordsOf ps qs rs).map (ren cs)) = true → ∀ p' u1 u2 u3 H', Same H H' → FrameAt C H' p' u1 u2 u3 (ps.map (renP cs)) (qs.map (ren cs)) (rs.map (ren cs)) → Q (.ref p') H')
section
variable {P : Program} {w : World} {K : PySem.W.Frag} {mg : Str → Option Value} {base : Heap} {C CO CI f : Addr} {cdv : Value} {A : Around} {outer : List Env} {s0 : Shared} {H0 : Hp} {E : XK} {k : Nat}
def rn2 (C : Addr) : TS := fun D σ H => ∃ (p e : Addr) (v1 v2 v3 : V) (ps : List (Str × Str)) (qs rs : List Str) (cs : List (Str × Str)), σ = [some (.ref p), some (.ref e), none, none, none, none, none, none, none] ∧ RnS C p e v1 v2 v3 ps qs rs cs H ∧
  ∀ t H', Same H H' → Arr H' (.ref t) (ps.map (renP cs)) → D.nx [some (.ref p), some (.ref e), none, none, none, some (.ref t), none, none, none] H'
theorem ren2 (R : RN P w K mg base C CO CI) (hr : Room k (A.deeper (envOfC "Frame.renamed" (defScope sRen) s0.heap.objs.size f cdv))) (hk : 7 ≤ k) : PS (XRn P w K mg base f cdv A outer s0 H0 E) (stRn 2) (rn2 C) := by
  have hu := hu_of hr
  refine ps_imp (ps_set (i := 5) scRen.nd rfl (.inl rfl) (pe_callTy call_tuple_of (by rfl) R.B.tuple (by decide +kernel) (pa_cons (pe_lc (own := [("array", 6), ("length", 7)]) (g := gTup K 2 (gCons (gName 6) (gCons (gName 7) gNil))) (tt := tYes) rfl scRen.nd (pi_tup (pe_fld (pv 0) rfl)) (blkOk_by (N := nRen) (sc := defScope sRen) (by decide +kernel))
        (fun _ _ _ _ _ => pg_tup rfl (pgs_cons (pg_name (i := 6) scRen.nd rfl (Or.inl rfl) (Or.inr rfl)) (pgs_cons (pg_name (i := 7) scRen.nd rfl (Or.inl rfl) (Or.inr rfl)) pgs_nil))) (fun _ _ _ _ _ => pts_nil)
        (fun _ _ _ _ _ => pe_tup (pa_cons (pe_dget2 hu (pv 1) (pv 6) (pv 6) ⟨rfl, rfl, rfl, rfl⟩) (pa_cons (pe_dget2 hu (pv 1) (pv 7) (pv 7) ⟨rfl, rfl, rfl, rfl⟩) pa_nil)))) pa_nil))) ?_
  rintro D σ H ⟨p, e, v1, v2, v3, ps, qs, rs, cs, rfl, S, q⟩
  obtain ⟨dx, t, d2, e4, ob, ht, hd, hk'⟩ := id S.Fr.ob
  obtain ⟨a, xs, rfl, ea, lx, at_⟩ := arr_get S.Fr.ar
  refine ⟨.ref p, rfl, p, C, dx, frN.zip [.ref a, v2, v3, .ref t, .ref d2, .ref e4], .ref a, rfl, ob, R.T.cl, R.T.no _ (by decide +kernel), lookup_zip (i := 0) (by decide +kernel) rfl, a, rfl, ⟨_, SqT.of ea⟩, fun L nL => ?_⟩
  have l1 := S.g.l1
  refine lc_tup (K := K) (a := a) (xs := xs) (fun m H' => Same H H' ∧ ∃ ys, H' L = some (.lst ys) ∧ ShwAll H' ys (((ps.take m).map (renP cs)).map prD)) ⟨same_upd nL, [], upd_same, by rw [List.take_zero]; exact .nil⟩ (fun m H' _ hP => SqT.of (hP.1 _ _ ea)) (fun m x H' hm hP => ?_) (fun H' hP => ?_)
  · obtain ⟨s1, ys, d1, sy⟩ := hP
    obtain ⟨c, b, hc, rfl, eb⟩ := at_ m x hm
    have he := s1 _ _ S.he
    refine ⟨b, _, rfl, SqT.of (s1 _ _ eb), rfl, _, _, rfl, _, _, rfl, rfl, rfl, ?_⟩
    refine ⟨.ref e, rfl, e, rfl, .inl ⟨_, .inl he⟩, .str c.1, rfl, .str c.1, rfl, _, DGet.k (k := Sum.inr c.1) he, ?_⟩
    refine ⟨.ref e, rfl, e, rfl, .inl ⟨_, .inl he⟩, .str c.2, rfl, .str c.2, rfl, _, DGet.k (k := Sum.inr c.2) he, ?_⟩
    rw [ren_val, ren_val]
    refine ⟨(by rw [sizeLine_eq]; show 2 ≤ _; decide), fun T nT => ?_⟩
    have sT := same_upd (p := T) (o := .tup [V.str (ren cs c.1), V.str (ren cs c.2)]) nT
    have d2' := sT _ _ d1
    have TL := ne_of_none d1 nT
    have ly := ShwAll.len sy
    simp only [List.length_map, List.length_take] at ly
    refine ⟨ys, d2', by rw [sizeLine_eq]; omega, fun b o eb => ?_, ys ++ [.ref T], upd_same, ?_⟩
    · rw [upd_ne (ne_of_none eb nL)]
      exact sT _ _ (s1 _ _ eb)
    · rw [List.take_add_one, hc, List.map_append, List.map_append]
      refine ShwAll.snoc ?_ ?_
      · refine ShwAll.keepT (fun b zs eb => ?_) _ (ShwAll.same sy sT)
        rw [upd_ne fun z => by rw [z, d2'] at eb; cases eb]
        exact eb
      · exact .tup (by rw [upd_ne TL.symm, upd_same]; rfl) (.cons (.str _) (.cons (.str _) .nil))
  · obtain ⟨s1, ys, d1, sy⟩ := hP
    rw [lx, List.take_length] at sy
    refine ⟨L, ys, rfl, .inl ⟨SqL.of d1, fun l nl => ?_⟩⟩
    have sl := same_upd (p := l) (o := .tup ys) nl
    exact q l _ (s1.trans sl) (.tup upd_same (ShwAll.same sy sl))
def rn3 (C : Addr) : TS := fun D σ H => ∃ (p e t : Addr) (v1 v2 v3 : V) (ps : List (Str × Str)) (qs rs : List Str) (cs : List (Str × Str)), σ = [some (.ref p), some (.ref e), none, none, none, some (.ref t), none, none, none] ∧ RnS C p e v1 v2 v3 ps qs rs cs H ∧
  ∀ u H', Same H H' → Txts H' (.ref u) (qs.map (ren cs)) → D.nx [some (.ref p), some (.ref e), none, none, none, some (.ref t), none, none, some (.ref u)] H'
theorem ren3 (R : RN P w K mg base C CO CI) (hr : Room k (A.deeper (envOfC "Frame.renamed" (defScope sRen) s0.heap.objs.size f cdv))) (hk : 7 ≤ k) : PS (XRn P w K mg base f cdv A outer s0 H0 E) (stRn 3) (rn3 C) := by
  have hu := hu_of hr
  refine ps_imp (ps_set (i := 8) scRen.nd rfl (.inl rfl) (pe_callTy call_tuple_of (by rfl) R.B.tuple (by decide +kernel) (pa_cons (pe_lc (own := [("word", 4)]) (g := gName 4) (tt := tYes) rfl scRen.nd (pi_tup (pe_fld (pv 0) rfl)) (blkOk_by (N := nRen) (sc := defScope sRen) (by decide +kernel))
        (fun _ _ _ _ _ => pg_name (i := 4) scRen.nd rfl (Or.inl rfl) (Or.inr rfl)) (fun _ _ _ _ _ => pts_nil)
        (fun _ _ _ _ _ => pe_dget2 hu (pv 1) (pv 4) (pv 4) ⟨rfl, rfl, rfl, rfl⟩)) pa_nil))) ?_
  rintro D σ H ⟨p, e, t0, v1, v2, v3, ps, qs, rs, cs, rfl, S, q⟩
  obtain ⟨dx, t, d2, e4, ob, ht, hd, hk'⟩ := id S.Fr.ob
  obtain ⟨a, rfl, ea⟩ := id S.Fr.po
  have l2 := S.g.l2
  refine ⟨.ref p, rfl, p, C, dx, frN.zip [v1, .ref a, v3, .ref t, .ref d2, .ref e4], .ref a, rfl, ob, R.T.cl, R.T.no _ (by decide +kernel), lookup_zip (i := 1) (by decide +kernel) rfl, a, rfl, ⟨_, SqT.of ea⟩, fun L nL => ?_⟩
  refine lc_txt (K := K) (fun z => .str (ren cs z)) (SqT.of ea) nL (by omega) (fun z H' Q' hz s1 k => ?_) (fun H' s1 d1 => ?_)
  · have he := s1 _ _ S.he
    refine ⟨rfl, .ref e, rfl, e, rfl, .inl ⟨_, .inl he⟩, .str z, rfl, .str z, rfl, _, DGet.k (k := Sum.inr z) he, ?_⟩
    rw [ren_val]
    exact k H' (Same.refl H')
  · refine ⟨L, _, rfl, .inl ⟨SqL.of d1, fun l nl => q l _ (s1.trans (same_upd nl)) ⟨l, rfl, ?_⟩⟩⟩
    rw [upd_same, List.map_map]
    rfl
def rn4 (C : Addr) : TS := fun D σ H => ∃ (p e t u : Addr) (v1 v2 v3 : V) (ps : List (Str × Str)) (qs rs : List Str) (cs : List (Str × Str)), σ = [some (.ref p), some (.ref e), none, none, none, some (.ref t), none, none, some (.ref u)] ∧ RnS C p e v1 v2 v3 ps qs rs cs H ∧
  Arr H (.ref t) (ps.map (renP cs)) ∧ Txts H (.ref u) (qs.map (ren cs)) ∧ nodupW ((wordsOf ps qs rs).map (ren cs)) = true ∧
  ∀ p' u1 u2 u3 H', Same H H' → FrameAt C H' p' u1 u2 u3 (ps.map (renP cs)) (qs.map (ren cs)) (rs.map (ren cs)) → D.rt (.ref p') H'
theorem ren4 (R : RN P w K mg base C CO CI) (hr : Room k (A.deeper (envOfC "Frame.renamed" (defScope sRen) s0.heap.objs.size f cdv))) (hk : 7 ≤ k) : PS (XRn P w K mg base f cdv A outer s0 H0 E) (stRn 4) (rn4 C) := by
  have hu := hu_of hr
  obtain ⟨gF, fI, fdI, M, FI, hb⟩ := R.mkf
  refine ps_imp (ps_ret (pe_make M FI (hr.mono (show 6 ≤ k by omega)) (by rfl) gF hb .nil passLN (pa_cons (pv 5) (pa_cons (pv 8) (pa_cons (pe_callTy call_tuple_of (by rfl) R.B.tuple (by decide +kernel) (pa_cons (pe_lc (own := [("word", 4)]) (g := gName 4) (tt := tYes) rfl scRen.nd (pi_tup (pe_fld (pv 0) rfl)) (blkOk_by (N := nRen) (sc := defScope sRen) (by decide +kernel))
        (fun _ _ _ _ _ => pg_name (i := 4) scRen.nd rfl (Or.inl rfl) (Or.inr rfl)) (fun _ _ _ _ _ => pts_nil)
        (fun _ _ _ _ _ => pe_dget2 hu (pv 1) (pv 4) (pv 4) ⟨rfl, rfl, rfl, rfl⟩)) pa_nil)) pa_nil))))) ?_
  rintro D σ H ⟨p, e, t0, u0, v1, v2, v3, ps, qs, rs, cs, rfl, S, y1, y2, en, q⟩
  obtain ⟨dx, t, d2, e4, ob, ht, hd, hk'⟩ := id S.Fr.ob
  obtain ⟨a, rfl, ea⟩ := id S.Fr.va
  have l3 := S.g.l3
  have gq := GoodQ.ren S.g (fun c hc => (S.nm c hc).2) en
  refine ⟨.ref t0, rfl, .ref u0, rfl, .ref p, rfl, p, C, dx, frN.zip [v1, v2, .ref a, .ref t, .ref d2, .ref e4], .ref a, rfl, ob, R.T.cl, R.T.no _ (by decide +kernel), lookup_zip (i := 2) (by decide +kernel) rfl, a, rfl, ⟨_, SqT.of ea⟩, fun L nL => ?_⟩
  refine lc_txt (K := K) (fun z => .str (ren cs z)) (SqT.of ea) nL (by omega) (fun z H' Q' hz s1 k => ?_) (fun H' s1 d1 => ?_)
  · have he := s1 _ _ S.he
    refine ⟨rfl, .ref e, rfl, e, rfl, .inl ⟨_, .inl he⟩, .str z, rfl, .str z, rfl, _, DGet.k (k := Sum.inr z) he, ?_⟩
    rw [ren_val]
    exact k H' (Same.refl H')
  · refine ⟨L, _, rfl, .inl ⟨SqL.of d1, fun u nu => ?_⟩⟩
    have tu : Txts (upd H' u (.tup (rs.map fun z => V.str (ren cs z)))) (.ref u) (rs.map (ren cs)) := ⟨u, rfl, by rw [upd_same, List.map_map]; rfl⟩
    replace s1 := s1.trans (same_upd (p := u) (o := .tup (rs.map fun z => V.str (ren cs z))) nu)
    generalize upd H' u (.tup (rs.map fun z => V.str (ren cs z))) = H'' at tu s1 ⊢
    intro x dx' nx ndx ne
    have sm := (same_upd (p := dx') (o := .own x) ndx).trans (same_upd (p := x) (o := .ins C dx' []) (by rw [upd_ne ne.symm]; exact nx))
    have w1 := gq.l1
    have w2 := gq.l2
    have w3 := gq.l3
    refine ⟨x, dx', .ref t0, .ref u0, .ref u, _, _, _, rfl, upd_same, Shw.same y1 (s1.trans sm), Shw.same (txts_shw y2) (s1.trans sm), Shw.same (txts_shw tu) sm, gd_prs18 (by omega) gq.w.m1, gd_strs18 (by omega) gq.w.m2, gd_strs18 (by omega) gq.w.m3, fun z H3 w' => ?_, fun z H3 kp Fr' => ⟨rfl, ?_⟩⟩
    · rw [gq.frame] at z
      cases z
    · rw [prs_back, strs_back, strs_back] at Fr'
      exact q x _ _ _ H3 (fun b o eb => kp b o (sm _ _ (s1 _ _ eb)) (ne_of_none (s1 _ _ eb) nx)) Fr'
theorem ok_ren {f C CO CI : Addr} {fd : FuncData} (F : Fun K "renamed" "Frame.renamed" sRen f fd) (R : RN P w K mg base C CO CI) : FnOk P w K mg base (L2.CX P w) 8 f fd ["self", "names"] (spRen C CO) := by
  refine F.okX scRen (fun vs H Q E h => ?_) (fun cdv A outer s H vs Q E hr h => ?_)
  · obtain ⟨p, e, v1, v2, v3, ps, qs, rs, cs, rfl, _⟩ := h
    rfl
  · refine ⟨_, (pss_cons (ren0 R hr (by omega)) (pss_cons (ren1 R hr (by omega)) (pss_cons (ren2 R hr (by omega)) (pss_cons (ren3 R hr (by omega)) (pss_one (ren4 R hr (by omega)))))) : PSs (XRn P w K mg base f cdv A outer s H E) (defBody sRen) _), ?_⟩
    obtain ⟨p, e, v1, v2, v3, ps, qs, rs, cs, rfl, S, bad, good⟩ := h
    refine ⟨p, e, v1, v2, v3, ps, qs, rs, cs, rfl, S, fun H1 w1 => ⟨p, e, v1, v2, v3, ps, qs, rs, cs, rfl, S.same w1, fun z H2 w2 => bad z H2 (w1.trans w2), fun z H2 w2 => ?_⟩⟩
    have w12 := w1.trans w2
    refine ⟨p, e, v1, v2, v3, ps, qs, rs, cs, rfl, S.same w12, fun t H3 w3 y1 => ⟨p, e, t, v1, v2, v3, ps, qs, rs, cs, rfl, S.same (w12.trans w3), fun u H4 w4 y2 => ?_⟩⟩
    exact ⟨p, e, t, u, v1, v2, v3, ps, qs, rs, cs, rfl, S.same (w12.trans (w3.trans w4)), Shw.same y1 w4, y2, z, fun p' u1 u2 u3 H' w5 fr => good z p' u1 u2 u3 H' (w12.trans (w3.trans (w4.trans w5))) fr⟩
end
end K02

set_option autoImplicit false
set_option maxRecDepth 100000
set_option maxHeartbeats 4000000
/-! terms as data: what is shown of them; repr of a tuple -/
namespace KX
open PySem PySem.Spec PyProof.Rows L2
def rReprT : List V → Hp → VK → Prop := fun vs H Q => ∃ (a : Addr) (ds : List PyData), vs = [.ref a] ∧ Shw H (.ref a) (.tuple ds) ∧ (PyData.tuple ds).showable = true ∧ (PyData.tuple ds).depth ≤ 60 ∧ (PyData.tuple ds).shown.length ≤ 1000000 ∧ Q (.str (PyData.tuple ds).shown) H
theorem call_reprT {X : Cx} (hg : X.A.guards = some []) (hu : X.A.units + 64 < cLine) : CallR X (.builtin "repr") rReprT := by
  intro pins s σ H vs us Q I r h
  obtain ⟨a, ds, rfl, sh, hs, hd, hz, q⟩ := h
  obtain ⟨u, rfl, rr⟩ := vals1 r
  obtain rfl : u = Value.ref a := rr
  have hz1 : (tupleText (PyData.shownAll ds)).length ≤ sizeLine := by
    simp only [PyData.shown] at hz
    rw [sizeLine_eq]
    omega
  obtain ⟨as0, rd⟩ := shw_reads I.hok (.tuple ds) (.ref a) (.ref a) sh rfl
  cases sh with
  | @tup _ xs _ e ha =>
    obtain ⟨_, its, rv, ⟨o, g, gc, n, gd⟩⟩ := tup_get I.hok e
    obtain ⟨bs, hb, hk⟩ := shw_reprAll I.hok ds _ its ha rv (by simpa only [PyData.showable] using hs) fun t ht => Nat.le_trans (tupleText_mem_le ht) hz1
    have hna := not_mem_of_deeper rd (by simp only [PyData.depth]; omega) hb
    simp only [PyData.depth] at hd
    simp only [PyData.shown] at q
    refine call_repr_slot (T := "tuple") (by omega) ⟨o, g, gc⟩ F.slot_tuple_repr ?_
    refine call_tuple_reprK g gc gd hna (by simpa using hk) hg (fun b _ => Clear.nil b) (by show X.A.units + 1 + _ < _; omega) (fun _ _ z => z) (fun h' t tk kp => ?_) hz1
    exact ⟨_, _, rfl, .str _, H, I.kept kp, ⟨t, rfl⟩, q⟩
theorem call_reprS {X : Cx} : CallR X (.builtin "repr") (fun xs H Q => ∃ z : Str, xs = [.str z] ∧ (reprText z).length ≤ sizeLine ∧ Q (.str (reprText z)) H) := by
  intro pins s σ H vs us Q I r h
  obtain ⟨z, rfl, hz, q⟩ := h
  obtain ⟨u, rfl, rr⟩ := vals1 r
  obtain ⟨t, rfl⟩ := rr
  exact PySem.P.repr_of_str ⟨.str _, H, I.tok _, ⟨_, rfl⟩, q⟩ hz
end KX
namespace K02
open PySem PySem.Spec PyProof.Rows L2 KX
def TW : List Str := W18 ++ (["", "own", "0", "term"] : List Str)
theorem TW_ok : ∀ z ∈ TW, (PyData.str z).shown.length ≤ 13 := by decide +kernel
/-- texts are words of the law -/
def wrd1 : PyData → Bool
  | .str z => decide (z ∈ TW)
  | _ => true
def wrdD : PyData → Bool
  | .tuple ds => decide (ds.length ≤ 10) && ds.all wrd1
  | _ => true
structure TmOk (d : PyData) : Prop where
  show_ : PyData.showable d = true
  dep : PyData.depth d ≤ 60
  len : d.shown.length ≤ 1000000
theorem lim_log {i : Int} (h : isIg (.int i) = true) : i.natAbs.log2 < 1920 := by
  unfold isIg at h
  rw [Bool.and_eq_true] at h
  have h1 := of_decide_eq_true h.1
  have h2 := of_decide_eq_true h.2
  have h3 : i.natAbs < 2 ^ 1920 := by
    have : i.natAbs < 1000000000000000000000000000000000000000000000000000000000000 := by
      unfold lim at h1 h2
      omega
    exact Nat.lt_trans this (by decide +kernel)
  by_cases z : i.natAbs = 0
  · rw [z]; decide
  · exact (Nat.log2_lt z).mpr h3
theorem tm1 {d : PyData} (h : (∃ z, d = .str z ∧ z ∈ TW) ∨ isIg d = true) : d.showable = true ∧ d.depth = 0 ∧ d.shown.length ≤ 1921 := by
  rcases h with ⟨z, rfl, hz⟩ | h
  · exact ⟨rfl, rfl, Nat.le_trans (TW_ok z hz) (by decide)⟩
  · obtain ⟨i, rfl⟩ := isIg_int h
    have := lim_log h
    exact ⟨decide_eq_true this, rfl, int_text_len_1921 this⟩
theorem tm_of {ds : List PyData} (n : ds.length ≤ 13) (h : ∀ d ∈ ds, (∃ z, d = .str z ∧ z ∈ TW) ∨ isIg d = true) : TmOk (.tuple ds) := by
  refine ⟨?_, ?_, ?_⟩
  · simp only [PyData.showable]
    exact showableAll_of fun d hd => (tm1 (h d hd)).1
  · have := depth_all (n := 0) fun d hd => Nat.le_of_eq (tm1 (h d hd)).2.1
    simp only [PyData.depth]
    omega
  · simp only [PyData.shown]
    exact Nat.le_trans (tupleText_len_le _) (Nat.le_trans (shown_sum (B := 1921) n fun d hd => (tm1 (h d hd)).2.2) (by decide))
theorem wrd_all {ds : List PyData} (w : wrdD (.tuple ds) = true) : ds.length ≤ 10 ∧ ds.all wrd1 = true := by
  replace w : (decide (ds.length ≤ 10) && ds.all wrd1) = true := w
  rw [Bool.and_eq_true] at w
  exact ⟨of_decide_eq_true w.1, w.2⟩
theorem wrd_mem {ds : List PyData} {z : Str} (w : wrdD (.tuple ds) = true) (h : PyData.str z ∈ ds) : z ∈ TW := of_decide_eq_true (List.all_eq_true.mp (wrd_all w).2 _ h)
theorem tm_pos {ps : List (Str × Str)} {qs rs own : List Str} {d : PyData} (w : wrdD d = true) (h : isPos ps qs rs own d = true) : TmOk d := by
  unfold isPos at h
  split at h
  · rename_i z n
    rw [Bool.and_eq_true] at h
    refine tm_of (by show 2 ≤ 13; decide) fun d hd => ?_
    simp only [List.mem_cons, List.not_mem_nil, or_false] at hd
    rcases hd with rfl | rfl
    · exact .inl ⟨z, rfl, wrd_mem w (by simp)⟩
    · exact .inr h.1
  · cases h
theorem hasK_str {ps : List (Str × Str)} {qs rs ks : List Str} {d : PyData} (h : hasK ps qs rs ks d = true) : ∃ z, d = .str z := by
  cases d with
  | str z => exact ⟨z, rfl⟩
  | _ => cases h
theorem worth_str {ps : List (Str × Str)} {qs rs : List Str} {d : PyData} (h : worthW ps qs rs d = true) : ∃ z, d = .str z := by
  cases d with
  | str z => exact ⟨z, rfl⟩
  | _ => cases h
theorem tm_val {ps : List (Str × Str)} {qs rs own : List Str} {d : PyData} (w : wrdD d = true) (h : isVal ps qs rs own d = true) : TmOk d := by
  unfold isVal at h
  split at h
  · rename_i x n
    rw [Bool.and_eq_true] at h
    obtain ⟨z, rfl⟩ := worth_str h.2
    refine tm_of (by show 2 ≤ 13; decide) fun d hd => ?_
    simp only [List.mem_cons, List.not_mem_nil, or_false] at hd
    rcases hd with rfl | rfl
    · exact .inl ⟨z, rfl, wrd_mem w (by simp)⟩
    · exact .inr h.1
  · rename_i x y m n
    rw [Bool.and_eq_true, Bool.and_eq_true] at h
    obtain ⟨z, rfl⟩ := hasK_str h.2.1
    have hp := h.2.2
    unfold isPos at hp
    split at hp
    · rename_i z2 n2 e
      cases e
      rw [Bool.and_eq_true] at hp
      refine tm_of (by show 4 ≤ 13; decide) fun d hd => ?_
      simp only [List.mem_cons, List.not_mem_nil, or_false] at hd
      rcases hd with rfl | rfl | rfl | rfl
      · exact .inl ⟨z, rfl, wrd_mem w (by simp)⟩
      · exact .inl ⟨z2, rfl, wrd_mem w (by simp)⟩
      · exact .inr hp.1
      · exact .inr h.1
    · cases hp
  · cases h
theorem tm_trm {ps : List (Str × Str)} {qs rs : List Str} {d : PyData} (w : wrdD d = true) (h : isTrm ps qs rs d = true) : TmOk d := by
  unfold isTrm at h
  rw [Bool.or_eq_true] at h
  exact h.elim (tm_pos w) (tm_val w)
theorem wrd_up {d : PyData} {m : Int} (w : wrdD d = true) (e : endsI d = true) : wrdD (upD m d) = true := by
  match d, e with
  | .tuple [a, .int i], _ => exact w
  | .tuple [a, b, c, .int i], _ => rw [upD4]; exact w
/-- the last number of a term -/
def lastI : PyData → Int
  | .tuple [_, .int i] => i
  | .tuple [_, _, _, .int i] => i
  | _ => 0
/-- a term that is shifted is one just if its number isn't too long -/
theorem trm_up {ps : List (Str × Str)} {qs rs : List Str} {d : PyData} (m : Int) (h : isTrm ps qs rs d = true) : isTrm ps qs rs (upD m d) = isIg (.int (lastI d + m)) := by
  have e := ends_trm h
  match d, e with
  | .tuple [a, .int i], _ =>
    show isTrm ps qs rs (.tuple [a, .int (i + m)]) = isIg (.int (i + m))
    unfold isTrm at h ⊢
    have h1 : ∀ j, isPos ps qs rs [] (.tuple [a, .int j]) = (isIg (.int j) && (match a with | .str z => posW ps qs rs [] z | _ => false)) := fun j => by
      cases a <;> simp [isPos]
    have h2 : ∀ j, isVal ps qs rs [] (.tuple [a, .int j]) = (isIg (.int j) && worthW ps qs rs a) := fun j => rfl
    rw [h1, h2, ← Bool.and_or_distrib_left, Bool.and_eq_true] at h
    rw [h1, h2, ← Bool.and_or_distrib_left, h.2, Bool.and_true]
  | .tuple [a, b, c, .int i], _ =>
    rw [upD4]
    show isTrm ps qs rs (.tuple [a, b, c, .int (i + m)]) = isIg (.int (lastI (.tuple [a, b, c, .int i]) + m))
    have e1 : lastI (.tuple [a, b, c, .int i]) = i := by cases b <;> rfl
    rw [e1]
    unfold isTrm at h ⊢
    rw [pos_len (by show 4 ≠ 2; decide), Bool.false_or] at h ⊢
    have h2 : ∀ j, isVal ps qs rs [] (.tuple [a, b, c, .int j]) = (isIg (.int j) && (hasK ps qs rs ["array"] a && isPos ps qs rs [] (.tuple [b, c]))) := fun j => rfl
    rw [h2, Bool.and_eq_true] at h
    rw [h2, h.2, Bool.and_true]
end K02

set_option autoImplicit false
set_option maxRecDepth 100000
set_option maxHeartbeats 4000000
/-! values near terms: the first statements -/
namespace K02
open PySem PySem.Spec PyProof.Rows L2 KX
abbrev sNear : Stmt := topS 43
abbrev nNear : List Str := ["_law_creel_here", "_law_parts_here", "_law_mine", "_law_names", "_law_numbers", "_law_number", "_law_term", "_law_some"]
theorem scNear : FnScope nNear ["_law_creel_here", "_law_parts_here", "_law_mine"] (defScope sNear) := ⟨rfl, rfl, rfl, by decide +kernel, rfl, by decide +kernel, by decide +kernel⟩
def stN (i : Nat) : Stmt := (defBody sNear).getD i (.Pass ⟨0, 0, 0, 0⟩)
abbrev crl (x y c : Int) : HO := .lst [.int x, .int y, .int c]
structure NF (P : Program) (w : World) (K : PySem.W.Frag) (mg : Str → Option Value) (base : Heap) : Prop where
  B : Free mg
  fish : Fnc P w K mg base CX0 1 "_law_fish" ["_law_creel_here", "_law_total"] spFish
  one : Fnc P w K mg base CX0 2 "_law_one_of" ["_law_creel_here", "_law_items"] spOne
  allOf : Fnc P w K mg base CX0 2 "_law_all_of" ["_law_parts_here"] spAll
abbrev NX (P : Program) (w : World) (K : PySem.W.Frag) (mg : Str → Option Value) (base : Heap) (f : Addr) (cdv : Value) (A : Around) (outer : List Env) (s0 : Shared) (H0 : Hp) (E : XK) : Cx := cxOf CX0 P w K mg base nNear "_law_term_near" (defScope sNear) f cdv A outer s0 H0 E
/-- the parts, right ones -/
structure PtQ (H : Hp) (l : Addr) (v1 v2 v3 : V) (ps : List (Str × Str)) (qs rs : List Str) : Prop where
  hl : H l = some (.lst [v1, v2, v3])
  y1 : Arr H v1 ps
  y2 : Txts H v2 qs
  y3 : Txts H v3 rs
  g : GoodQ ps qs rs
theorem PtQ.same {H H' : Hp} {l : Addr} {v1 v2 v3 : V} {ps : List (Str × Str)} {qs rs : List Str} (p : PtQ H l v1 v2 v3 ps qs rs) (s : Same H H') : PtQ H' l v1 v2 v3 ps qs rs := ⟨s _ _ p.hl, Shw.same p.y1 s, p.y2.same s, p.y3.same s, p.g⟩
theorem ref_off {v1 v2 v3 : V} {H : Hp} {a l : Addr} {i : Int} {r : List V} {d : PyData} (ha : H a = some (.lst (.int i :: r))) (hl : H l = some (.lst [v1, v2, v3])) (s : Shw H v1 d) (h : ∀ j, d ≠ .int j) : l ≠ a := fun e => by
  subst e
  rw [ha] at hl
  cases hl
  cases s
  exact h _ rfl
theorem PtQ.off {H : Hp} {a l : Addr} {v1 v2 v3 : V} {ps : List (Str × Str)} {qs rs : List Str} {i : Int} {r : List V} (p : PtQ H l v1 v2 v3 ps qs rs) (ha : H a = some (.lst (.int i :: r))) : l ≠ a := ref_off ha p.hl p.y1 fun j z => nomatch z
theorem txts_off {H H' : Hp} {a : Addr} {i : Int} {r : List V} {v : V} {zs : List Str} (ha : H a = some (.lst (.int i :: r))) (g : Grw a H H') (t : Txts H v zs) : Txts H' v zs := by
  obtain ⟨b, e, h⟩ := t
  exact ⟨b, e, g _ _ (tup_ne ha h) h⟩
theorem PtQ.grow {H H' : Hp} {a l : Addr} {v1 v2 v3 : V} {ps : List (Str × Str)} {qs rs : List Str} {i : Int} {r : List V} (p : PtQ H l v1 v2 v3 ps qs rs) (ha : H a = some (.lst (.int i :: r))) (g : Grw a H H') : PtQ H' l v1 v2 v3 ps qs rs :=
  ⟨g _ _ (p.off ha) p.hl, Shw.off ha g (by simp only [offD, off_prs]) p.y1, txts_off ha g p.y2, txts_off ha g p.y3, p.g⟩
/-- the numbers of terms, right and wrong ones -/
def NUd : List PyData := [.int 0, .int 1, .int (-2), .int ((10 : Int) ^ (59 : Int).toNat), .int ((10 : Int) ^ (60 : Int).toNat - 1), .int (1 - (10 : Int) ^ (60 : Int).toNat), .int ((10 : Int) ^ (60 : Int).toNat), .none, .bool true, .str "0", .tuple [.int 0]]
def NUv (t : Addr) : List V := [.int 0, .int 1, .int (-2), .int ((10 : Int) ^ (59 : Int).toNat), .int ((10 : Int) ^ (60 : Int).toNat - 1), .int (1 - (10 : Int) ^ (60 : Int).toNat), .int ((10 : Int) ^ (60 : Int).toNat), .non, .bl true, .str "0", .ref t]
theorem nu_shw {H : Hp} {t : Addr} (h : H t = some (.tup [.int 0])) : ShwAll H (NUv t) NUd :=
  .cons (.int _) (.cons (.int _) (.cons (.int _) (.cons (.int _) (.cons (.int _) (.cons (.int _) (.cons (.int _) (.cons .non (.cons (.bl _) (.cons (.str _) (.cons (.tup h (.cons (.int _) .nil)) .nil))))))))))
/-- a member of a term -/
def elB (d : PyData) : Bool := wrd1 d && offD d
theorem nu_el : ∀ d ∈ NUd, elB d = true := by
  intro d hd
  unfold NUd at hd
  simp only [List.mem_cons, List.not_mem_nil, or_false] at hd
  rcases hd with rfl | rfl | rfl | rfl | rfl | rfl | rfl | rfl | rfl | rfl | rfl
  all_goals first | rfl | decide +kernel
section
variable {P : Program} {w : World} {K : PySem.W.Frag} {mg : Str → Option Value} {base : Heap} {f : Addr} {cdv : Value} {A : Around} {outer : List Env} {s0 : Shared} {H0 : Hp} {E : XK} {k : Nat}
def nr0 : TS := fun D σ H => ∃ (a l : Addr) (x v1 v2 v3 : V) (ps : List (Str × Str)) (qs rs own : List Str), σ = [some (.ref a), some (.ref l), some x, none, none, none, none, none] ∧ PtQ H l v1 v2 v3 ps qs rs ∧ Txts H x own ∧ own.length ≤ 2 ∧ (∀ z ∈ own, z ∈ TW) ∧
  ∀ (N : Addr) (H' : Hp) (nms : List Str), Same H H' → H N = none → H' N = some (.lst (nms.map V.str)) → 0 < nms.length → nms.length ≤ 60 → (∀ z ∈ nms, z ∈ TW) → D.nx [some (.ref a), some (.ref l), some x, some (.ref N), none, none, none, none] H'
theorem near0 (R : NF P w K mg base) (hr : Room k (A.deeper (envOfC "_law_term_near" (defScope sNear) s0.heap.objs.size f cdv))) (hk : 2 ≤ k) : PS (NX P w K mg base f cdv A outer s0 H0 E).nox (stN 0) nr0 := by
  refine ps_imp (ps_set (i := 3) scNear.nd rfl (.inl rfl) (pe_op op_cat (pe_op op_cat (pe_fnc R.allOf hr (by omega) (by rfl) pass0 (pa_cons (pv 1) pa_nil)) (pe_callTy call_list_of (by rfl) R.B.list (by decide +kernel) (pa_cons (pv 2) pa_nil))) (pe_lst (pa_cons pe_str (pa_cons pe_str pa_nil))))) ?_
  rintro D σ H ⟨a, l, x, v1, v2, v3, ps, qs, rs, own, rfl, pq, tx, few, mem, q⟩
  have l1 := pq.g.l1
  have l2 := pq.g.l2
  have l3 := pq.g.l3
  have fw := pq.g.few
  obtain ⟨b, rfl, eb⟩ := tx
  refine ⟨.ref l, rfl, l, v1, v2, v3, ps, qs, rs, rfl, pq.hl, pq.y1, pq.y2, pq.y3, by omega, by omega, by omega, fun L1 H1 w1 e1 => ?_⟩
  refine ⟨.ref b, rfl, b, _, rfl, .inr (SqT.of (w1 _ _ eb)), fun L2 n2 => ?_⟩
  have s2 := same_upd (p := L2) (o := .lst (own.map V.str)) n2
  refine ⟨L1, L2, _, _, rfl, rfl, s2 _ _ e1, upd_same, by rw [List.length_map, List.length_map, sizeLine_eq]; omega, fun L3 n3 => ?_⟩
  have s3 := same_upd (p := L3) (o := .lst ((wordsOf ps qs rs).map V.str ++ own.map V.str)) n3
  refine ⟨(by rw [sizeLine_eq]; show 2 ≤ _; decide), fun L4 n4 => ?_⟩
  have s4 := same_upd (p := L4) (o := .lst [.str "", .str "new"]) n4
  refine ⟨L3, L4, _, _, rfl, rfl, s4 _ _ upd_same, upd_same, by rw [List.length_append, List.length_map, List.length_map, sizeLine_eq]; show _ + 2 ≤ _; omega, fun L5 n5 => ?_⟩
  have s5 := same_upd (p := L5) (o := .lst (((wordsOf ps qs rs).map V.str ++ own.map V.str) ++ [.str "", .str "new"])) n5
  have w15 := w1.trans (s2.trans (s3.trans (s4.trans s5)))
  refine q L5 _ ((wordsOf ps qs rs ++ own) ++ (["", "new"] : List Str)) w15 ?_ ?_ ?_ ?_ ?_
  · cases e : H L5 with
    | none => rfl
    | some o =>
      have := (w1.trans (s2.trans (s3.trans s4))) _ _ e
      rw [n5] at this
      cases this
  · rw [upd_same, List.map_append, List.map_append]
    rfl
  · rw [List.length_append]; show 0 < _ + 2; omega
  · rw [List.length_append, List.length_append]; show _ + 2 ≤ 60; omega
  · intro z hz
    rcases List.mem_append.mp hz with h | h
    · rcases List.mem_append.mp h with h | h
      · exact List.mem_append_left _ (GoodQ.words pq.g.w z h)
      · exact mem z h
    · have e : ∀ y ∈ (["", "new"] : List Str), y ∈ TW := by decide +kernel
      exact e z h
def nr1 : TS := fun D σ H => ∃ (a l : Addr) (x : V) (N : Addr), σ = [some (.ref a), some (.ref l), some x, some (.ref N), none, none, none, none] ∧
  ∀ (U t : Addr) (H' : Hp), Same H H' → H U = none → H' U = some (.lst (NUv t)) → H' t = some (.tup [.int 0]) → D.nx [some (.ref a), some (.ref l), some x, some (.ref N), some (.ref U), none, none, none] H'
theorem near1 (R : NF P w K mg base) (hr : Room k (A.deeper (envOfC "_law_term_near" (defScope sNear) s0.heap.objs.size f cdv))) (hk : 2 ≤ k) : PS (NX P w K mg base f cdv A outer s0 H0 E).nox (stN 1) nr1 := by
  refine ps_imp (ps_set (i := 4) scNear.nd rfl (.inl rfl) (pe_lst (pa_cons pe_int (pa_cons pe_int (pa_cons (pe_un un_neg pe_int) (pa_cons (pe_op op_pow pe_int pe_int) (pa_cons (pe_op op_sub (pe_op op_pow pe_int pe_int) pe_int) (pa_cons (pe_op op_sub pe_int (pe_op op_pow pe_int pe_int)) (pa_cons (pe_op op_pow pe_int pe_int)
    (pa_cons pe_non (pa_cons pe_bl (pa_cons pe_str (pa_cons (pe_tup (pa_cons pe_int pa_nil)) pa_nil))))))))))))) ?_
  rintro D σ H ⟨a, l, x, N, rfl, q⟩
  have c59 : CPow 10 59 := ⟨by decide, by decide +kernel⟩
  have c60 : CPow 10 60 := ⟨by decide, by decide +kernel⟩
  refine ⟨2, rfl, 10, 59, rfl, rfl, c59, 10, 60, rfl, rfl, c60, _, _, rfl, rfl, 10, 60, rfl, rfl, c60, _, _, rfl, rfl, 10, 60, rfl, rfl, c60, ?_⟩
  refine ⟨(by rw [sizeLine_eq]; show 1 ≤ _; decide), fun t nt => ?_⟩
  have st := same_upd (p := t) (o := .tup [.int 0]) nt
  refine ⟨(by rw [sizeLine_eq]; show 11 ≤ _; decide), fun U nU => ?_⟩
  have sU := same_upd (p := U) (o := .lst (NUv t)) nU
  refine q U t _ (st.trans sU) ?_ upd_same (sU _ _ upd_same)
  cases e : H U with
  | none => rfl
  | some o =>
    have := st _ _ e
    rw [nU] at this
    cases this
end
end K02

set_option autoImplicit false
set_option maxRecDepth 100000
set_option maxHeartbeats 4000000
/-! values near terms: a number, a term -/
namespace K02
open PySem PySem.Spec PyProof.Rows L2 KX
section
variable {K : PySem.W.Frag} {H : Hp} {Q : VK} {x : V} {ds : List PyData}
theorem cut_shw {lo hi : Option Int} (sx : Shw H x (.tuple ds)) (q : ∀ v H', Same H H' → Shw H' v (.tuple (cutA ds lo hi)) → Q v H') : rSlA K x lo hi H Q := by
  obtain ⟨a, xs, rfl, e1, r1⟩ := tup_get' sx
  have l1 := ShwAll.len r1
  refine ⟨a, xs, rfl, SqT.of e1, fun h => ?_, fun _ p np => ?_⟩
  · rw [l1] at h
    exact q _ H (Same.refl H) (by rw [cut_whole h]; exact sx)
  · have s := same_upd (p := p) (o := .tup (cutV xs lo hi)) np
    have r2 : ShwAll H (cutV xs lo hi) (cutA ds lo hi) := by
      unfold cutV cutA
      rw [l1]
      exact ShwAll.take _ (ShwAll.drop _ r1)
    exact q _ _ s (.tup upd_same (ShwAll.same r2 s))
theorem ShwAll.mem : ∀ {vs : List V} {ds : List PyData} {v : V}, ShwAll H vs ds → v ∈ vs → ∃ d ∈ ds, Shw H v d
  | _, _, _, .cons a r, h => by
    rcases List.mem_cons.mp h with rfl | h
    · exact ⟨_, List.mem_cons_self, a⟩
    · obtain ⟨d, hd, s⟩ := ShwAll.mem r h
      exact ⟨d, List.mem_cons_of_mem _ hd, s⟩
theorem cut_mem {α : Type} {xs : List α} {lo hi : Option Int} {z : α} (h : z ∈ cutA xs lo hi) : z ∈ xs := List.mem_of_mem_drop (List.mem_of_mem_take h)
end
/-- a term as data: its members -/
structure TmL (ts : List PyData) : Prop where
  hd : ∃ z rest, ts = .str z :: rest
  few : ts.length ≤ 4
  el : ∀ d ∈ ts, elB d = true
theorem el_off {d : PyData} (h : elB d = true) : offD d = true := by
  unfold elB at h
  rw [Bool.and_eq_true] at h
  exact h.2
theorem el_wrd {d : PyData} (h : elB d = true) : wrd1 d = true := by
  unfold elB at h
  rw [Bool.and_eq_true] at h
  exact h.1
theorem el_str {z : Str} (h : z ∈ TW) : elB (.str z) = true := by
  show (decide (z ∈ TW) && true) = true
  rw [decide_eq_true h]
  rfl
theorem off_tup {ds : List PyData} (h : ∀ d ∈ ds, elB d = true) : offD (.tuple ds) = true := by
  simp only [offD]
  exact offAll_mem fun d hd => el_off (h d hd)
theorem wrd_tup {ds : List PyData} (n : ds.length ≤ 10) (h : ∀ d ∈ ds, elB d = true) : wrdD (.tuple ds) = true := by
  show (decide (ds.length ≤ 10) && ds.all wrd1) = true
  rw [decide_eq_true n, Bool.true_and]
  exact List.all_eq_true.mpr fun d hd => el_wrd (h d hd)
section
variable {P : Program} {w : World} {K : PySem.W.Frag} {mg : Str → Option Value} {base : Heap} {f : Addr} {cdv : Value} {A : Around} {outer : List Env} {s0 : Shared} {H0 : Hp} {E : XK} {k : Nat}
/-- one of the numbers, of the first six or seven, or of all -/
theorem one_num {a p : Addr} {x0 y c : Int} {H : Hp} {vs : List V} {t : Addr} {Q : VK} (ha : H a = some (crl x0 y c)) (C : Cr x0 y c) (hc : c < 1000000) (hp : H p = some (.lst vs)) (pa : p ≠ a) (l0 : 0 < vs.length) (sub : ∀ v ∈ vs, v ∈ NUv t) (l1 : vs.length ≤ 11) (ht : H t = some (.tup [.int 0]))
    (q : ∀ (nv : V) (nd : PyData) (x' c' : Int) (H' : Hp), Shw H' nv nd → elB nd = true → H' a = some (crl x' y c') → Cr x' y c' → c' ≤ c + 1 → Grw a H H' → Q nv H') : spOne [.ref a, .ref p] H Q E0 := by
  refine ⟨a, .ref p, x0, y, c, rfl, ha, C, hc, .inl ⟨p, vs, rfl, hp, pa, l0, by omega, fun r v x' c' hv C' e' => ?_⟩⟩
  obtain ⟨d, hd, sd⟩ := ShwAll.mem (nu_shw ht) (sub v (List.mem_of_getElem? hv))
  have g : Grw a H (upd H a (crl x' y c')) := Grw.upd
  exact q v d x' c' _ (Shw.off ha g (el_off (nu_el d hd)) sd) (nu_el d hd) upd_same C' e' g
def nr2 : TS := fun D σ H => ∃ (a l : Addr) (x : V) (N U t : Addr) (x0 y c : Int), σ = [some (.ref a), some (.ref l), some x, some (.ref N), some (.ref U), none, none, none] ∧ H a = some (crl x0 y c) ∧ Cr x0 y c ∧ c ≤ 900000 ∧ H U = some (.lst (NUv t)) ∧ H t = some (.tup [.int 0]) ∧ U ≠ a ∧
  ∀ (nv : V) (nd : PyData) (x' c' : Int) (H' : Hp), Shw H' nv nd → elB nd = true → H' a = some (crl x' y c') → Cr x' y c' → c' ≤ c + 2 → Grw a H H' → D.nx [some (.ref a), some (.ref l), some x, some (.ref N), some (.ref U), some nv, none, none] H'
theorem cut6 (t : Addr) : cutV (NUv t) none (some 6) = (NUv t).take 6 := rfl
theorem cut7 (t : Addr) : cutV (NUv t) none (some 7) = (NUv t).take 7 := rfl
theorem near2 (R : NF P w K mg base) (hr : Room k (A.deeper (envOfC "_law_term_near" (defScope sNear) s0.heap.objs.size f cdv))) (hk : 2 ≤ k) : PS (NX P w K mg base f cdv A outer s0 H0 E).nox (stN 2) nr2 := by
  refine ps_imp (ps_set (i := 5) scNear.nd rfl (.inl rfl) (pe_ifExp (pt_cmpR op_gt (pe_fnc R.fish hr (by omega) (by rfl) pass0 (pa_cons (pv 0) (pa_cons pe_int pa_nil))) pe_int (nomark _))
    (pe_fnc R.one hr (by omega) (by rfl) pass0 (pa_cons (pv 0) (pa_cons (pe_slice sl_list (pv 4) po_none (po_some pe_int)) pa_nil)))
    (pe_fnc R.one hr (by omega) (by rfl) pass0 (pa_cons (pv 0) (pa_cons (pv 4) pa_nil))))) ?_
  rintro D σ H ⟨a, l, x, N, U, t, x0, y, c, rfl, ha, C, hc, hU, ht, Ua, q⟩
  refine ⟨.ref a, rfl, a, x0, y, c, 3, rfl, ha, C, by omega, by omega, by omega, fun r x1 c1 r0 r3 C1 e1 => ⟨r, 0, rfl, rfl, _, rfl, ?_⟩⟩
  have g1 : Grw a H (upd H a (crl x1 y c1)) := Grw.upd
  have ha1 : (upd H a (crl x1 y c1)) a = some (crl x1 y c1) := upd_same
  have hU1 := g1 _ _ Ua hU
  have ht1 := g1 _ _ (tup_ne ha ht) ht
  generalize upd H a (crl x1 y c1) = H1 at g1 ha1 hU1 ht1 ⊢
  refine ite2 (fun _ => ?_) (fun _ => ?_)
  · refine ⟨.ref a, rfl, .ref U, rfl, 6, rfl, U, _, rfl, SqL.of hU1, fun p np => ?_⟩
    have sp := same_upd (p := p) (o := .lst (cutV (NUv t) none (some 6))) np
    refine one_num (t := t) (sp _ _ ha1) C1 (by omega) upd_same (ne_of_none ha1 np).symm (by show 0 < 6; decide) (fun v hv => by rw [cut6] at hv; exact List.mem_of_mem_take hv) (by show 6 ≤ 11; decide) (sp _ _ ht1) (fun nv nd x' c' H' s e ha' C' e' g' => ?_)
    exact q nv nd x' c' H' s e ha' C' (by omega) (g1.trans ((Grw.of sp).trans g'))
  · refine ⟨.ref a, rfl, .ref U, rfl, ?_⟩
    refine one_num (t := t) ha1 C1 (by omega) hU1 Ua (by show 0 < 11; decide) (fun v hv => hv) (by show 11 ≤ 11; decide) ht1 (fun nv nd x' c' H' s e ha' C' e' g' => ?_)
    exact q nv nd x' c' H' s e ha' C' (by omega) (g1.trans g')
/-- one of the names -/
theorem one_nm {a N : Addr} {x0 y c : Int} {H : Hp} {nms : List Str} {Q : VK} (ha : H a = some (crl x0 y c)) (C : Cr x0 y c) (hc : c < 1000000) (hN : H N = some (.lst (nms.map V.str))) (Na : N ≠ a) (l0 : 0 < nms.length) (l1 : nms.length ≤ 60) (mem : ∀ z ∈ nms, z ∈ TW)
    (q : ∀ (z : Str) (x' c' : Int), z ∈ TW → Cr x' y c' → c' ≤ c + 1 → Q (.str z) (upd H a (crl x' y c'))) : spOne [.ref a, .ref N] H Q E0 := by
  refine ⟨a, .ref N, x0, y, c, rfl, ha, C, hc, .inl ⟨N, _, rfl, hN, Na, by rw [List.length_map]; exact l0, by rw [List.length_map]; omega, fun r v x' c' hv C' e' => ?_⟩⟩
  obtain ⟨z, hz, rfl⟩ := List.mem_map.mp (List.mem_of_getElem? hv)
  exact q z x' c' (mem z hz) C' e'
def nr3 : TS := fun D σ H => ∃ (a l : Addr) (x : V) (N U : Addr) (x0 y c : Int) (nms : List Str) (nv : V) (nd : PyData), σ = [some (.ref a), some (.ref l), some x, some (.ref N), some (.ref U), some nv, none, none] ∧ H a = some (crl x0 y c) ∧ Cr x0 y c ∧ c ≤ 900010 ∧
  H N = some (.lst (nms.map V.str)) ∧ N ≠ a ∧ 0 < nms.length ∧ nms.length ≤ 60 ∧ (∀ z ∈ nms, z ∈ TW) ∧ Shw H nv nd ∧ elB nd = true ∧
  ∀ (T : Addr) (z : Str) (x' c' : Int) (H' : Hp), Shw H' (.ref T) (.tuple [.str z, nd]) → Shw H' nv nd → z ∈ TW → H' a = some (crl x' y c') → Cr x' y c' → c' ≤ c + 1 → Grw a H H' → D.nx [some (.ref a), some (.ref l), some x, some (.ref N), some (.ref U), some nv, some (.ref T), none] H'
theorem near3 (R : NF P w K mg base) (hr : Room k (A.deeper (envOfC "_law_term_near" (defScope sNear) s0.heap.objs.size f cdv))) (hk : 2 ≤ k) : PS (NX P w K mg base f cdv A outer s0 H0 E).nox (stN 3) nr3 := by
  refine ps_imp (ps_set (i := 6) scNear.nd rfl (.inl rfl) (pe_tup (pa_cons (pe_fnc R.one hr (by omega) (by rfl) pass0 (pa_cons (pv 0) (pa_cons (pv 3) pa_nil))) (pa_cons (pv 5) pa_nil)))) ?_
  rintro D σ H ⟨a, l, x, N, U, x0, y, c, nms, nv, nd, rfl, ha, C, hc, hN, Na, l0, l1, mem, sn, en, q⟩
  refine ⟨.ref a, rfl, .ref N, rfl, ?_⟩
  show tNil _ _ _
  unfold tNil
  refine one_nm ha C (by omega) hN Na l0 l1 mem fun z x1 c1 hz C1 e1 => ?_
  have g1 : Grw a H (upd H a (crl x1 y c1)) := Grw.upd
  have ha1 : (upd H a (crl x1 y c1)) a = some (crl x1 y c1) := upd_same
  have sn1 := Shw.off ha g1 (el_off en) sn
  generalize upd H a (crl x1 y c1) = H1 at g1 ha1 sn1 ⊢
  refine ⟨nv, rfl, (by rw [sizeLine_eq]; show 2 ≤ _; decide), fun T nT => ?_⟩
  have sT := same_upd (p := T) (o := .tup [.str z, nv]) nT
  exact q T z x1 c1 _ (.tup upd_same (.cons (.str _) (.cons (Shw.same sn1 sT) .nil))) (Shw.same sn1 sT) hz (sT _ _ ha1) C1 e1 (g1.trans (Grw.of sT))
def nr4 : TS := fun D σ H => ∃ (a l : Addr) (x : V) (N U t T : Addr) (x0 y c : Int) (nms : List Str) (nv : V) (nd : PyData) (z : Str), σ = [some (.ref a), some (.ref l), some x, some (.ref N), some (.ref U), some nv, some (.ref T), none] ∧ H a = some (crl x0 y c) ∧ Cr x0 y c ∧ c ≤ 900020 ∧
  H N = some (.lst (nms.map V.str)) ∧ N ≠ a ∧ 0 < nms.length ∧ nms.length ≤ 60 ∧ (∀ z ∈ nms, z ∈ TW) ∧ Shw H nv nd ∧ elB nd = true ∧ H U = some (.lst (NUv t)) ∧ H t = some (.tup [.int 0]) ∧ U ≠ a ∧ Shw H (.ref T) (.tuple [.str z, nd]) ∧ z ∈ TW ∧
  ∀ (tv : V) (ts : List PyData) (x' c' : Int) (H' : Hp), Shw H' tv (.tuple ts) → TmL ts → H' a = some (crl x' y c') → Cr x' y c' → c' ≤ c + 3 → Grw a H H' → D.nx [some (.ref a), some (.ref l), some x, some (.ref N), some (.ref U), some nv, some tv, none] H'
theorem near4 (R : NF P w K mg base) (hr : Room k (A.deeper (envOfC "_law_term_near" (defScope sNear) s0.heap.objs.size f cdv))) (hk : 2 ≤ k) : PS (NX P w K mg base f cdv A outer s0 H0 E).nox (stN 4) nr4 := by
  refine ps_imp (ps_if (pt_cmpR op_eq (pe_fnc R.fish hr (by omega) (by rfl) pass0 (pa_cons (pv 0) (pa_cons pe_int pa_nil))) pe_int (nomark _))
    (pss_one (ps_set (i := 6) scNear.nd rfl (.inl rfl) (pe_op op_catA (pe_op op_catA (pe_tup (pa_cons (pe_fnc R.one hr (by omega) (by rfl) pass0 (pa_cons (pv 0) (pa_cons (pv 3) pa_nil))) pa_nil)) (pe_slice sl_tupA (pv 6) po_none (po_some pe_int)))
      (pe_tup (pa_cons (pe_fnc R.one hr (by omega) (by rfl) pass0 (pa_cons (pv 0) (pa_cons (pe_slice sl_list (pv 4) po_none (po_some pe_int)) pa_nil))) (pa_cons (pv 5) pa_nil)))))) pss_nil) ?_
  rintro D σ H ⟨a, l, x, N, U, t, T, x0, y, c, nms, nv, nd, z, rfl, ha, C, hc, hN, Na, l0, l1, mem, sn, en, hU, ht, Ua, sT, zT, q⟩
  have eT : ∀ d ∈ [PyData.str z, nd], elB d = true := fun d hd => by
    simp only [List.mem_cons, List.not_mem_nil, or_false] at hd
    rcases hd with rfl | rfl
    · exact el_str zT
    · exact en
  refine ⟨.ref a, rfl, a, x0, y, c, 2, rfl, ha, C, by omega, by omega, by omega, fun r x1 c1 r0 r3 C1 e1 => ⟨rfl, _, rfl, ?_⟩⟩
  have g1 : Grw a H (upd H a (crl x1 y c1)) := Grw.upd
  have ha1 : (upd H a (crl x1 y c1)) a = some (crl x1 y c1) := upd_same
  have hU1 := g1 _ _ Ua hU
  have hN1 := g1 _ _ Na hN
  have ht1 := g1 _ _ (tup_ne ha ht) ht
  have sn1 := Shw.off ha g1 (el_off en) sn
  have sT1 := Shw.off ha g1 (off_tup eT) sT
  generalize upd H a (crl x1 y c1) = H1 at g1 ha1 hU1 hN1 ht1 sn1 sT1 ⊢
  refine ite2 (fun _ => ?_) (fun _ => ?_)
  · refine ⟨.ref a, rfl, .ref N, rfl, one_nm ha1 C1 (by omega) hN1 Na l0 l1 mem fun z2 x2 c2 hz2 C2 e2 => ?_⟩
    have g2 : Grw a H1 (upd H1 a (crl x2 y c2)) := Grw.upd
    have ha2 : (upd H1 a (crl x2 y c2)) a = some (crl x2 y c2) := upd_same
    have hU2 := g2 _ _ Ua hU1
    have ht2 := g2 _ _ (tup_ne ha1 ht1) ht1
    have sn2 := Shw.off ha1 g2 (el_off en) sn1
    have sT2 := Shw.off ha1 g2 (off_tup eT) sT1
    generalize upd H1 a (crl x2 y c2) = H2 at g2 ha2 hU2 ht2 sn2 sT2 ⊢
    refine ⟨(by rw [sizeLine_eq]; show 1 ≤ _; decide), fun p np => ?_⟩
    have s3 := same_upd (p := p) (o := .tup [.str z2]) np
    have sp : Shw (upd H2 p (.tup [.str z2])) (.ref p) (.tuple [.str z2]) := .tup upd_same (.cons (.str _) .nil)
    generalize upd H2 p (.tup [.str z2]) = H3 at s3 sp ⊢
    refine ⟨.ref T, rfl, 1, rfl, cut_shw (Shw.same sT2 s3) fun v4 H4 w4 c4 => ?_⟩
    have ec : cutA [PyData.str z, nd] none (some 1) = [.str z] := rfl
    rw [ec] at c4
    refine cat_shw (Shw.same sp w4) c4 (by rw [sizeLine_eq]; show 1 + 1 ≤ _; decide) fun v5 H5 w5 c5 => ?_
    have w35 := s3.trans (w4.trans w5)
    refine ⟨.ref a, rfl, .ref U, rfl, 7, rfl, U, _, rfl, SqL.of (w35 _ _ hU2), fun p2 np2 => ?_⟩
    have s6 := same_upd (p := p2) (o := .lst (cutV (NUv t) none (some 7))) np2
    have w36 := w35.trans s6
    show tNil _ _ _
    unfold tNil
    refine one_num (t := t) (w36 _ _ ha2) C2 (by omega) upd_same (ne_of_none (w35 _ _ ha2) np2).symm (by show 0 < 7; decide) (fun v hv => by rw [cut7] at hv; exact List.mem_of_mem_take hv) (by show 7 ≤ 11; decide) (w36 _ _ ht2) (fun mv md x7 c7 H7 sm em ha7 C7 e7 g7 => ?_)
    have ha6 := w36 _ _ ha2
    have sn7 := Shw.off ha6 g7 (el_off en) (Shw.same sn2 w36)
    have e5 : ∀ d ∈ [PyData.str z2] ++ [.str z], elB d = true := fun d hd => by
      simp only [List.cons_append, List.nil_append, List.mem_cons, List.not_mem_nil, or_false] at hd
      rcases hd with rfl | rfl
      · exact el_str hz2
      · exact el_str zT
    have c57 := Shw.off ha6 g7 (off_tup e5) (Shw.same c5 s6)
    refine ⟨nv, rfl, (by rw [sizeLine_eq]; show 2 ≤ _; decide), fun p8 np8 => ?_⟩
    have s8 := same_upd (p := p8) (o := .tup [mv, nv]) np8
    refine cat_shw (Shw.same c57 s8) (es := [md, nd]) (.tup upd_same (.cons (Shw.same sm s8) (.cons (Shw.same sn7 s8) .nil))) (by rw [sizeLine_eq]; show 2 + 2 ≤ _; decide) fun v9 H9 w9 c9 => ?_
    have s89 := s8.trans w9
    refine q v9 _ x7 c7 H9 c9 ⟨⟨z2, _, rfl⟩, by show 4 ≤ 4; decide, fun d hd => ?_⟩ (s89 _ _ ha7) C7 (by omega) (g1.trans (g2.trans ((Grw.of w36).trans (g7.trans (Grw.of s89)))))
    rcases List.mem_append.mp hd with h | h
    · exact e5 d h
    · simp only [List.mem_cons, List.not_mem_nil, or_false] at h
      rcases h with rfl | rfl
      · exact em
      · exact en
  · exact q (.ref T) [.str z, nd] x1 c1 H1 sT1 ⟨⟨z, [nd], rfl⟩, by show 2 ≤ 4; decide, eT⟩ ha1 C1 (by omega) g1
end
end K02

set_option autoImplicit false
set_option maxRecDepth 100000
set_option maxHeartbeats 4000000
/-! values near terms: the choice -/
namespace K02
open PySem PySem.Spec PyProof.Rows L2 KX
def SMd (ts : List PyData) : List PyData := [.list ts, .tuple (cutA ts none (some (-1))), .tuple (ts ++ [.int 0]), .tuple [.tuple ts], .none, .str "i", .int 0, .dict [], .tuple ts.reverse]
theorem cut_len (ts : List PyData) (lo hi : Option Int) : (cutA ts lo hi).length ≤ ts.length := by
  unfold cutA
  simp only [List.length_take, List.length_drop]
  omega
theorem TmL.head {ts : List PyData} (t : TmL ts) : headInt ts = false := by
  obtain ⟨z, rest, rfl⟩ := t.hd
  rfl
theorem sm_near {ts : List PyData} (t : TmL ts) : ∀ d ∈ SMd ts, offD d = true ∧ wrdD d = true := by
  intro d hd
  unfold SMd at hd
  simp only [List.mem_cons, List.not_mem_nil, or_false] at hd
  have ot := off_tup t.el
  rcases hd with rfl | rfl | rfl | rfl | rfl | rfl | rfl | rfl | rfl
  · refine ⟨?_, rfl⟩
    simp only [offD] at ot ⊢
    rw [t.head, ot]
    rfl
  · exact ⟨off_tup fun d hd => t.el d (cut_mem hd), wrd_tup (by have := t.few; have := cut_len ts none (some (-1)); omega) fun d hd => t.el d (cut_mem hd)⟩
  · have e : ∀ d ∈ ts ++ [.int 0], elB d = true := fun d hd => by
      rcases List.mem_append.mp hd with h | h
      · exact t.el d h
      · rw [List.mem_singleton] at h
        subst h
        rfl
    exact ⟨off_tup e, wrd_tup (by have := t.few; rw [List.length_append]; show _ + 1 ≤ 10; omega) e⟩
  · refine ⟨?_, rfl⟩
    rw [show offD (.tuple [.tuple ts]) = (offD (.tuple ts) && true) by simp only [offD, offAll], ot]
    rfl
  · exact ⟨rfl, rfl⟩
  · exact ⟨rfl, rfl⟩
  · exact ⟨rfl, rfl⟩
  · exact ⟨rfl, rfl⟩
  · exact ⟨off_tup fun d hd => t.el d (List.mem_reverse.mp hd), wrd_tup (by have := t.few; rw [List.length_reverse]; omega) fun d hd => t.el d (List.mem_reverse.mp hd)⟩
section
variable {P : Program} {w : World} {K : PySem.W.Frag} {mg : Str → Option Value} {base : Heap} {f : Addr} {cdv : Value} {A : Around} {outer : List Env} {s0 : Shared} {H0 : Hp} {E : XK} {k : Nat}
def nr5 : TS := fun D σ H => ∃ (a l : Addr) (x : V) (N U : Addr) (nv tv : V) (ts : List PyData), σ = [some (.ref a), some (.ref l), some x, some (.ref N), some (.ref U), some nv, some tv, none] ∧ Shw H tv (.tuple ts) ∧ TmL ts ∧
  ∀ (S : Addr) (sv : List V) (H' : Hp), Same H H' → H S = none → H' S = some (.lst sv) → ShwAll H' sv (SMd ts) → D.nx [some (.ref a), some (.ref l), some x, some (.ref N), some (.ref U), some nv, some tv, some (.ref S)] H'
theorem none_back {H H' : Hp} {p : Addr} (s : Same H H') (n : H' p = none) : H p = none := by
  cases e : H p with
  | none => rfl
  | some o =>
    have := s _ _ e
    rw [n] at this
    cases this
theorem near5 (R : NF P w K mg base) (hr : Room k (A.deeper (envOfC "_law_term_near" (defScope sNear) s0.heap.objs.size f cdv))) (hk : 2 ≤ k) : PS (NX P w K mg base f cdv A outer s0 H0 E).nox (stN 5) nr5 := by
  refine ps_imp (ps_set (i := 7) scNear.nd rfl (.inl rfl) (pe_lst (pa_cons (pe_callTy call_list_of (by rfl) R.B.list (by decide +kernel) (pa_cons (pv 6) pa_nil)) (pa_cons (pe_slice sl_tupA (pv 6) po_none (po_some (pe_un un_neg pe_int)))
    (pa_cons (pe_op op_catA (pv 6) (pe_tup (pa_cons pe_int pa_nil))) (pa_cons (pe_tup (pa_cons (pv 6) pa_nil)) (pa_cons pe_non (pa_cons pe_str (pa_cons pe_int (pa_cons pe_dnewK (pa_cons (pe_tupBack (pv 6)) pa_nil))))))))))) ?_
  rintro D σ H ⟨a, l, x, N, U, nv, tv, ts, rfl, st, tl, q⟩
  obtain ⟨b, xs, rfl, eb, rb⟩ := shw_tup st
  refine ⟨.ref b, rfl, b, xs, rfl, .inr (SqT.of eb), fun L1 n1 => ?_⟩
  have s1 := same_upd (p := L1) (o := .lst xs) n1
  have r1 : Shw (upd H L1 (.lst xs)) (.ref L1) (.list ts) := .lst upd_same (ShwAll.same rb s1)
  generalize upd H L1 (.lst xs) = H1 at s1 r1 ⊢
  refine ⟨.ref b, rfl, 1, rfl, -1, rfl, cut_shw (Shw.same st s1) fun v2 H2 w2 c2 => ?_⟩
  have w12 := s1.trans w2
  refine ⟨.ref b, rfl, (by rw [sizeLine_eq]; show 1 ≤ _; decide), fun p3 n3 => ?_⟩
  have s3 := same_upd (p := p3) (o := .tup [.int 0]) n3
  have w13 := w12.trans s3
  refine cat_shw (Shw.same st w13) (es := [.int 0]) (.tup upd_same (.cons (.int _) .nil)) (by rw [sizeLine_eq]; have := tl.few; show _ + 1 ≤ _; omega) fun v4 H4 w4 c4 => ?_
  have w14 := w13.trans w4
  refine ⟨.ref b, rfl, (by rw [sizeLine_eq]; show 1 ≤ _; decide), fun p5 n5 => ?_⟩
  have s5 := same_upd (p := p5) (o := .tup [.ref b]) n5
  have w15 := w14.trans s5
  have c5 : Shw (upd H4 p5 (.tup [.ref b])) (.ref p5) (.tuple [.tuple ts]) := .tup upd_same (.cons (Shw.same st w15) .nil)
  generalize upd H4 p5 (.tup [.ref b]) = H5 at s5 w15 c5 ⊢
  intro d6 n6
  have s6 := same_upd (p := d6) (o := .dK []) n6
  have w16 := w15.trans s6
  refine ⟨.ref b, rfl, b, xs, rfl, SqT.of (w16 _ _ eb), fun p7 n7 => ?_⟩
  have s7 := same_upd (p := p7) (o := .tup xs.reverse) n7
  have w17 := w16.trans s7
  have c7 : Shw (upd (upd H5 d6 (.dK [])) p7 (.tup xs.reverse)) (.ref p7) (.tuple ts.reverse) := .tup upd_same (ShwAll.rev (ShwAll.same rb w17))
  refine ⟨(by rw [sizeLine_eq]; show 9 ≤ _; decide), fun S nS => ?_⟩
  have s8 := same_upd (p := S) (o := .lst [.ref L1, v2, v4, .ref p5, .non, .str "i", .int 0, .ref d6, .ref p7]) nS
  have w67 := s6.trans s7
  have w68 := w67.trans s8
  refine q S _ _ (w17.trans s8) (none_back w17 nS) upd_same ?_
  have z1 := Shw.same r1 (w2.trans (s3.trans (w4.trans (s5.trans w68))))
  have z2 := Shw.same c2 (s3.trans (w4.trans (s5.trans w68)))
  have z4 := Shw.same c4 (s5.trans w68)
  exact .cons z1 (.cons z2 (.cons z4 (.cons (Shw.same c5 w68) (.cons .non (.cons (.str _) (.cons (.int _) (.cons (.dct ((s7.trans s8) _ _ upd_same)) (.cons (Shw.same c7 s8) .nil))))))))
def nr6 : TS := fun D σ H => ∃ (a l : Addr) (x : V) (N U S : Addr) (nv tv : V) (ts : List PyData) (sv : List V) (x0 y c : Int), σ = [some (.ref a), some (.ref l), some x, some (.ref N), some (.ref U), some nv, some tv, some (.ref S)] ∧ H a = some (crl x0 y c) ∧ Cr x0 y c ∧ c ≤ 900030 ∧ Shw H tv (.tuple ts) ∧ TmL ts ∧
  H S = some (.lst sv) ∧ ShwAll H sv (SMd ts) ∧ S ≠ a ∧
  ∀ (v : V) (d : PyData) (x' c' : Int) (H' : Hp), Shw H' v d → offD d = true → wrdD d = true → H' a = some (crl x' y c') → Cr x' y c' → c' ≤ c + 2 → Grw a H H' → D.rt v H'
theorem near6 (R : NF P w K mg base) (hr : Room k (A.deeper (envOfC "_law_term_near" (defScope sNear) s0.heap.objs.size f cdv))) (hk : 2 ≤ k) : PS (NX P w K mg base f cdv A outer s0 H0 E).nox (stN 6) nr6 := by
  refine ps_imp (ps_ret (pe_ifExp (pt_cmpR op_gt (pe_fnc R.fish hr (by omega) (by rfl) pass0 (pa_cons (pv 0) (pa_cons pe_int pa_nil))) pe_int (nomark _)) (pv 6)
    (pe_fnc R.one hr (by omega) (by rfl) pass0 (pa_cons (pv 0) (pa_cons (pv 7) pa_nil))))) ?_
  rintro D σ H ⟨a, l, x, N, U, S, nv, tv, ts, sv, x0, y, c, rfl, ha, C, hc, st, tl, hS, ss, Sa, q⟩
  have sn := sm_near tl
  refine ⟨.ref a, rfl, a, x0, y, c, 4, rfl, ha, C, by omega, by omega, by omega, fun r x1 c1 r0 r3 C1 e1 => ⟨r, 0, rfl, rfl, _, rfl, ?_⟩⟩
  have g1 : Grw a H (upd H a (crl x1 y c1)) := Grw.upd
  have ha1 : (upd H a (crl x1 y c1)) a = some (crl x1 y c1) := upd_same
  have st1 := Shw.off ha g1 (off_tup tl.el) st
  have hS1 := g1 _ _ Sa hS
  have ss1 := ShwAll.off ha g1 (offAll_mem fun d hd => (sn d hd).1) ss
  generalize upd H a (crl x1 y c1) = H1 at g1 ha1 st1 hS1 ss1 ⊢
  refine ite2 (fun _ => ?_) (fun _ => ?_)
  · exact ⟨tv, rfl, q tv (.tuple ts) x1 c1 H1 st1 (off_tup tl.el) (wrd_tup (by have := tl.few; omega) tl.el) ha1 C1 (by omega) g1⟩
  · have ls := ShwAll.len ss1
    have l9 : (SMd ts).length = 9 := rfl
    refine ⟨.ref a, rfl, .ref S, rfl, ?_⟩
    show tNil _ _ _
    unfold tNil
    refine ⟨a, .ref S, x1, y, c1, rfl, ha1, C1, by omega, .inl ⟨S, sv, rfl, hS1, Sa, by omega, by omega, fun r2 v x' c' hv C' e' => ?_⟩⟩
    obtain ⟨d, hd, sd⟩ := ShwAll.mem ss1 (List.mem_of_getElem? hv)
    have g2 : Grw a H1 (upd H1 a (crl x' y c')) := Grw.upd
    exact q v d x' c' _ (Shw.off ha1 g2 (sn d hd).1 sd) (sn d hd).1 (sn d hd).2 upd_same C' (by omega) (g1.trans g2)
def spNear : Sp := fun vs H Q _ => ∃ (a l : Addr) (x v1 v2 v3 : V) (ps : List (Str × Str)) (qs rs own : List Str) (x0 y c : Int), vs = [.ref a, .ref l, x] ∧ H a = some (crl x0 y c) ∧ Cr x0 y c ∧ c ≤ 900000 ∧ PtQ H l v1 v2 v3 ps qs rs ∧ Txts H x own ∧ own.length ≤ 2 ∧ (∀ z ∈ own, z ∈ TW) ∧
  ∀ (v : V) (d : PyData) (x' c' : Int) (H' : Hp), Shw H' v d → offD d = true → wrdD d = true → H' a = some (crl x' y c') → Cr x' y c' → c' ≤ c + 10 → Grw a H H' → Q v H'
theorem ok_near {f : Addr} {fd : FuncData} (F : Fun K "_law_term_near" "_law_term_near" sNear f fd) (R : NF P w K mg base) : FnOk P w K mg base CX0 3 f fd ["_law_creel_here", "_law_parts_here", "_law_mine"] spNear := by
  refine F.ok scNear (fun vs H Q E h => ?_) (fun cdv A outer s H vs Q E hr h => ?_)
  · obtain ⟨a, l, x, v1, v2, v3, ps, qs, rs, own, x0, y, c, rfl, _⟩ := h
    rfl
  · refine ⟨_, (pss_cons (near0 R hr (by omega)) (pss_cons (near1 R hr (by omega)) (pss_cons (near2 R hr (by omega)) (pss_cons (near3 R hr (by omega)) (pss_cons (near4 R hr (by omega)) (pss_cons (near5 R hr (by omega)) (pss_one (near6 R hr (by omega)))))))) : PSs (NX P w K mg base f cdv A outer s H E).nox (defBody sNear) _), ?_⟩
    obtain ⟨a, l, x, v1, v2, v3, ps, qs, rs, own, x0, y, c, rfl, ha, C, hc, pq, tx, few, mem, q⟩ := h
    refine ⟨a, l, x, v1, v2, v3, ps, qs, rs, own, rfl, pq, tx, few, mem, fun N H1 nms w1 nN hN l0 l1 mN => ?_⟩
    have Na : N ≠ a := (ne_of_none ha nN).symm
    refine ⟨a, l, x, N, rfl, fun U t H2 w2 nU hU ht => ?_⟩
    have Ua : U ≠ a := (ne_of_none (w1 _ _ ha) nU).symm
    have w12 := w1.trans w2
    refine ⟨a, l, x, N, U, t, x0, y, c, rfl, w12 _ _ ha, C, hc, hU, ht, Ua, fun nv nd x3 c3 H3 sn en ha3 C3 e3 g3 => ?_⟩
    have hN3 := g3 _ _ Na (w2 _ _ hN)
    refine ⟨a, l, x, N, U, x3, y, c3, nms, nv, nd, rfl, ha3, C3, by omega, hN3, Na, l0, l1, mN, sn, en, fun T z x4 c4 H4 sT sn4 hz ha4 C4 e4 g4 => ?_⟩
    have g34 := g3.trans g4
    refine ⟨a, l, x, N, U, t, T, x4, y, c4, nms, nv, nd, z, rfl, ha4, C4, by omega, g4 _ _ Na hN3, Na, l0, l1, mN, sn4, en, g34 _ _ Ua hU, g34 _ _ (tup_ne (w12 _ _ ha) ht) ht, Ua, sT, hz, fun tv ts x5 c5 H5 st tl ha5 C5 e5 g5 => ?_⟩
    refine ⟨a, l, x, N, U, nv, tv, ts, rfl, st, tl, fun S sv H6 w6 nS hS ss => ?_⟩
    refine ⟨a, l, x, N, U, S, nv, tv, ts, sv, x5, y, c5, rfl, w6 _ _ ha5, C5, by omega, Shw.same st w6, tl, hS, ss, (ne_of_none ha5 nS).symm, fun v d x' c' H' sv' od wd ha' C' e' g' => ?_⟩
    exact q v d x' c' H' sv' od wd ha' C' (by omega) ((Grw.of w12).trans (g34.trans (g5.trans ((Grw.of w6).trans g'))))
end
end K02

set_option autoImplicit false
set_option maxRecDepth 100000
set_option maxHeartbeats 4000000
/-! few of some items, or all-/
namespace K02
open PySem PySem.Spec PyProof.Rows L2 KX
def spFewM : Sp := fun vs H Q _ => ∃ (a p : Addr) (x y c : Int) (zs : List Str) (n : Nat), vs = [.ref a, .ref p, .int n] ∧ p ≠ a ∧ H a = some (.lst [.int x, .int y, .int c]) ∧ Cr x y c ∧ c ≤ 900000 ∧ H p = some (.lst (zs.map V.str)) ∧ zs.length ≤ 1000 ∧ n ≤ 1000 ∧
  ∀ (l : Addr) (fs ls : List Str) (x' c' : Int) (H' : Hp), fs.length = min n zs.length → (fs ++ ls).Perm zs → Cr x' y c' → c' ≤ c + n → H' a = some (.lst [.int x', .int y, .int c']) → Grw a H H' → l ≠ a → H' l = some (.lst (fs.map V.str)) → Q (.ref l) H'
section
variable {P : Program} {w : World} {K : PySem.W.Frag} {mg : Str → Option Value} {base : Heap}
theorem ok_fewM {f : Addr} {fd : FuncData} (F : Fun K "_law_few_of" "_law_few_of" sFew f fd) (Fi : Fnc P w K mg base CX0 1 "_law_fish" ["_law_creel_here", "_law_total"] spFish) (B : Free mg) (mMin : mg "min" = none) : FnOk P w K mg base CX0 2 f fd ["_law_creel_here", "_law_items", "_law_count"] spFewM := by
  refine F.ok scFew (fun vs H Q E h => ?_) (fun cdv A outer s H vs Q E hr h => ?_)
  · obtain ⟨a, p, x, y, c, zs, n, rfl, _⟩ := h
    rfl
  · obtain ⟨a, p, x, y, c, zs, n, rfl, hpa, ha, C, hc, hp, few, hn, q⟩ := h
    refine ⟨_, pss_cons (ps_par (i := 3) (j := 4) rfl scFew.nd rfl rfl (by decide) rfl rfl (pa_cons (pe_callTy call_list_of (by rfl) B.list (by decide +kernel) (pa_cons (pv 1) pa_nil)) (pa_cons (pe_lst pa_nil) pa_nil)) (by rfl))
      (pss_cons (ps_for PassesOwn.never rfl (pi_range1 (by rfl) B.range (pa_cons (pe_callB (call_min2 rfl) (by rfl) mMin (by decide +kernel) (pa_cons (pv 2) (pa_cons (pe_callB (r := rLen K) call_len_seq (by rfl) B.len PySem.boot_len (pa_cons (pv 1) pa_nil)) pa_nil))) pa_nil)) (pg_name (i := 5) scFew.nd rfl (Or.inl rfl))
        (pss_one (ps_expr (pe_bm PySem.F.plainAttrs_list PySem.F.slot_list_append PySem.F.type_list_append mt_append (pv 4) (pa_cons (pe_bm PySem.F.plainAttrs_list PySem.F.slot_list_pop PySem.F.type_list_pop mt_popAt (pv 3)
          (pa_cons (pe_fnc Fi hr (by omega) (by rfl) pass0 (pa_cons (pv 0) (pa_cons (pe_callB (r := rLen K) call_len_seq (by rfl) B.len PySem.boot_len (pa_cons (pv 3) pa_nil)) pa_nil))) pa_nil)) pa_nil)))))
      (pss_one (ps_ret (pv 4)))), ?_⟩
    refine ⟨_, rfl, p, _, rfl, .inl (SqL.of hp), fun L nL => ⟨by rw [sizeLine_eq]; decide, fun Fd nF => ⟨_, _, rfl, ?_⟩⟩⟩
    have La : L ≠ a := (ne_of_none ha nL).symm
    have Lp : L ≠ p := (ne_of_none hp nL).symm
    have FL : Fd ≠ L := fun z => by rw [z, upd_same] at nF; cases nF
    have sm := (same_upd (p := L) (o := .lst (zs.map V.str)) nL).trans (same_upd (p := Fd) (o := .lst []) nF)
    have Fa : Fd ≠ a := (ne_of_none ((same_upd (p := L) (o := .lst (zs.map V.str)) nL) _ _ ha) nF).symm
    have Fp : Fd ≠ p := (ne_of_none ((same_upd (p := L) (o := .lst (zs.map V.str)) nL) _ _ hp) nF).symm
    have hL : (upd (upd H L (.lst (zs.map V.str))) Fd (.lst [])) L = some (.lst (zs.map V.str)) := by rw [upd_ne FL.symm, upd_same]
    have hF : (upd (upd H L (.lst (zs.map V.str))) Fd (.lst [])) Fd = some (.lst []) := upd_same
    have nb : ∀ b o, H b = some o → b ≠ L ∧ b ≠ Fd := fun b o e => ⟨ne_of_none e nL, ne_of_none ((same_upd (p := L) (o := .lst (zs.map V.str)) nL) _ _ e) nF⟩
    generalize upd (upd H L _) Fd _ = H2 at sm hL hF ⊢
    have en : (if (((zs.map V.str).length : Nat) : Int) < (n : Int) then (((zs.map V.str).length : Nat) : Int) else (n : Int)) = ((min n zs.length : Nat) : Int) := by
      rw [List.length_map]
      split <;> omega
    refine ⟨_, rfl, _, rfl, p, _, rfl, .inl (SqL.of (sm _ _ hp)), n, _, rfl, ((min n zs.length : Nat) : Int), by rw [en], by omega, by omega, ?_⟩
    refine for_range (fun m σ' H' => ∃ (x' c' : Int) (ls fs : List Str) (t : Option V), σ' = [some (.ref a), some (.ref p), some (.int n), some (.ref L), some (.ref Fd), t] ∧ H' a = some (.lst [.int x', .int y, .int c']) ∧ Cr x' y c' ∧ c' ≤ c + m ∧ H' L = some (.lst (ls.map V.str)) ∧ H' Fd = some (.lst (fs.map V.str)) ∧ fs.length = m ∧ (fs ++ ls).Perm zs ∧ Grw a H H')
      ⟨x, c, zs, [], none, rfl, sm _ _ ha, C, by omega, hL, hF, rfl, List.Perm.refl _, fun b o _ e => sm _ _ e⟩ (fun m σ' H' hm hP => ?_) (fun σ' H' hP => ?_)
    · obtain ⟨x', c', ls, fs, t, rfl, ha', C', hc', hl', hf', fl, pm, gw⟩ := hP
      have tot := pm.length_eq
      rw [List.length_append] at tot
      have lm : (ls.map V.str).length = ls.length := List.length_map _
      refine ⟨.ref Fd, rfl, .inl ⟨rfl, _, SqL.of hf'⟩, .ref L, rfl, .inl ⟨rfl, _, SqL.of hl'⟩, .ref a, rfl, .ref L, rfl, L, _, rfl, .inl (SqL.of hl'), a, x', y, c', _, rfl, ha', C', by omega, by omega, by omega, fun r x2 c2 h0 h1 C2 l2 => ?_⟩
      rw [lm] at h1
      have hk : r.toNat < ls.length := by omega
      have er : ((r.toNat : Nat) : Int) = r := Int.toNat_of_nonneg h0
      refine ⟨L, ls.map V.str, r, r.toNat, .str (ls[r.toNat]'hk), rfl, rfl, by rw [upd_ne La]; exact hl', by omega, by omega, by rw [lm]; exact seqIndex_of h0 h1, by rw [List.getElem?_map, List.getElem?_eq_getElem hk]; rfl, ?_⟩
      refine ⟨Fd, fs.map V.str, .str (ls[r.toNat]'hk), rfl, rfl, by rw [upd_ne FL, upd_ne Fa]; exact hf', by rw [List.length_map, sizeLine_eq]; omega, ?_⟩
      refine ⟨x2, c2, ls.eraseIdx r.toNat, fs ++ [ls[r.toNat]'hk], _, rfl, ?_, C2, by omega, ?_, ?_, by rw [List.length_append, List.length_singleton]; omega, ?_, fun b o nba e => ?_⟩
      · rw [upd_ne Fa.symm, upd_ne La.symm, upd_same]
      · rw [upd_ne FL.symm, upd_same, erase_map]
      · rw [upd_same, List.map_append]
        rfl
      · rw [List.append_assoc]
        exact (List.Perm.append_left fs (erase_perm hk)).trans pm
      · obtain ⟨n1, n2⟩ := nb b o e
        rw [upd_ne n2, upd_ne n1, upd_ne nba]
        exact gw b o nba e
    · obtain ⟨x', c', ls, fs, t, rfl, ha', C', hc', hl', hf', fl, pm, gw⟩ := hP
      exact ⟨_, rfl, q Fd fs ls x' c' H' (by rw [fl]; omega) pm C' (by omega) ha' gw Fa hf'⟩
end
end K02

set_option autoImplicit false
set_option maxRecDepth 100000
set_option maxHeartbeats 4000000
/-! a shifted term, or "term" -/
namespace K02
open PySem PySem.Spec PyProof.Rows L2 KX
abbrev sLSh : Stmt := topS 44
theorem scLSh : FnScope ["_law_frame_here", "_law_term", "_law_shift"] ["_law_frame_here", "_law_term", "_law_shift"] (defScope sLSh) := ⟨rfl, rfl, rfl, by decide +kernel, rfl, by decide +kernel, by decide +kernel⟩
/-- what a shifted term is due to be -/
def Due (H : Hp) (r : V) (ps : List (Str × Str)) (qs rs : List Str) (d : PyData) (n : Int) : Prop := ((isTrm ps qs rs d && isTrm ps qs rs (upD n d)) = true ∧ Shw H r (upD n d)) ∨ ((isTrm ps qs rs d && isTrm ps qs rs (upD n d)) = false ∧ r = .str "term")
theorem Due.same {H H' : Hp} {r : V} {ps : List (Str × Str)} {qs rs : List Str} {d : PyData} {n : Int} (h : Due H r ps qs rs d n) (s : Same H H') : Due H' r ps qs rs d n := h.elim (fun h => .inl ⟨h.1, Shw.same h.2 s⟩) .inr
def spLSh (C : Addr) : Sp := fun vs H Q _ => ∃ (p : Addr) (v1 v2 v3 : V) (ps : List (Str × Str)) (qs rs : List Str) (v : V) (d : PyData) (n : Int), vs = [.ref p, v, .int n] ∧ FrameAt C H p v1 v2 v3 ps qs rs ∧ Shw H v d ∧ isIg (.int n) = true ∧
  ∀ r H', Same H H' → Due H' r ps qs rs d n → Q r H'
section
variable {P : Program} {w : World} {K : PySem.W.Frag} {mg : Str → Option Value} {base : Heap}
theorem ok_lsh {f C CT : Addr} {fd : FuncData} (F : Fun K "_law_shifted" "_law_shifted" sLSh f fd) (T : FrTxt K mg C) (O : OM P w K mg base (L2.CX P w) 6 C "shifted" ["self", "term", "shift"] (spShift C CT)) (gT : mg "InvalidTerm" = some (.ref CT)) (kx : PySem.W.exmOne K (.ref CT) (.ref CT) = some true) :
    FnOk P w K mg base CX0 7 f fd ["_law_frame_here", "_law_term", "_law_shift"] (spLSh C) := by
  refine F.ok scLSh (fun vs H Q E h => ?_) (fun cdv A outer s H vs Q E hr h => ?_)
  · obtain ⟨p, v1, v2, v3, ps, qs, rs, v, d, n, rfl, _⟩ := h
    rfl
  · obtain ⟨p, v1, v2, v3, ps, qs, rs, v, d, n, rfl, Fr, sh, ig, q⟩ := h
    refine ⟨_, pss_one (ps_try_only (tb := fun W => tRet (tMethA C "shifted" (spShift C CT) (WE W) (tVar 0) (tCons (tVar 1) (tCons (tVar 2) tNil)))) (ts := fun _ _ _ => tRet (tC (.str "term"))) (Wout := fun _ _ _ _ => False) rfl rfl ⟨rfl, by decide, Or.inl gT⟩ takes0
      (fun W pn xe tk _ => pss_one (ps_ret (pe_oma (pl := _) O T.cl hr (by omega) (fun σ => passAt tk σ) (pv 0) (pa_cons (pv 1) (pa_cons (pv 2) pa_nil)))))
      (fun _ _ _ _ _ _ _ => pss_one (ps_ret pe_str))), ?_⟩
    obtain ⟨dx, t, d2, e4, ob, _⟩ := id Fr.ob
    refine ⟨.ref p, rfl, p, dx, _, rfl, ob, lookup_zip_none (by decide +kernel), v, rfl, .int n, rfl, p, v1, v2, v3, ps, qs, rs, v, d, n, rfl, Fr, sh, ig, fun z H' w' => ⟨true, kx, fun _ _ _ => q _ H' w' (.inr ⟨z, rfl⟩), fun e => nomatch e⟩, fun z r H' w' s' => q r H' w' (.inl ⟨z, s'⟩)⟩
end
end K02

set_option autoImplicit false
set_option maxRecDepth 100000
set_option maxHeartbeats 4000000
/-! terms judged: own names -/
namespace K02
open PySem PySem.Spec PyProof.Rows L2 KX
abbrev sTR : Stmt := topS 45
abbrev nTR : List Str := ["_law_creel_here", "_law_frame_here", "_law_parts_here", "_law_names", "_law_name", "_law_mine", "_law_turn", "_law_term", "_law_shift", "_law_due", "_law_told", "_law_later"]
theorem scTR : FnScope nTR ["_law_creel_here", "_law_frame_here", "_law_parts_here"] (defScope sTR) := ⟨rfl, rfl, rfl, by decide +kernel, rfl, by decide +kernel, by decide +kernel⟩
def stT (i : Nat) : Stmt := (defBody sTR).getD i (.Pass ⟨0, 0, 0, 0⟩)
abbrev TX (P : Program) (w : World) (K : PySem.W.Frag) (mg : Str → Option Value) (base : Heap) (f : Addr) (cdv : Value) (A : Around) (outer : List Env) (s0 : Shared) (H0 : Hp) (E : XK) : Cx := cxOf CX0 P w K mg base nTR "_law_terms_right" (defScope sTR) f cdv A outer s0 H0 E
structure TF (P : Program) (w : World) (K : PySem.W.Frag) (mg : Str → Option Value) (base : Heap) (C T0 T1 : Addr) : Prop where
  T : FrTxt K mg C
  B : Free mg
  mRepr : mg "repr" = none
  fish : Fnc P w K mg base CX0 1 "_law_fish" ["_law_creel_here", "_law_total"] spFish
  one : Fnc P w K mg base CX0 2 "_law_one_of" ["_law_creel_here", "_law_items"] spOne
  few : Fnc P w K mg base CX0 2 "_law_few_of" ["_law_creel_here", "_law_items", "_law_count"] spFewM
  allOf : Fnc P w K mg base CX0 2 "_law_all_of" ["_law_parts_here"] spAll
  near : Fnc P w K mg base CX0 3 "_law_term_near" ["_law_creel_here", "_law_parts_here", "_law_mine"] spNear
  plc : Fnc P w K mg base CX0 2 "_law_is_place" nPlc spPlc
  wor : Fnc P w K mg base CX0 3 "_law_is_worth" ["_law_parts_here", "_law_value", "_law_mine"] spWor
  num : Fnc P w K mg base CX0 1 "_law_is_number" ["_law_value"] spIg
  lsh : Fnc P w K mg base CX0 7 "_law_shifted" ["_law_frame_here", "_law_term", "_law_shift"] (spLSh C)
  isP : OMK P w K mg base CX0 4 C "is_position_term" ["self", "value", "own"] (spIsT K C isPos) 2 ["own"] (fun vs zs => vs ++ zs)
  isV : OMK P w K mg base CX0 5 C "is_value_term" ["self", "value", "own"] (spIsT K C isVal) 2 ["own"] (fun vs zs => vs ++ zs)
  isP0 : OMD P w K mg base CX0 4 C "is_position_term" ["self", "value", "own"] (spIsT K C isPos) [.ref T0]
  isV0 : OMD P w K mg base CX0 5 C "is_value_term" ["self", "value", "own"] (spIsT K C isVal) [.ref T1]
  t0 : ∀ H, SqT K H T0 []
  t1 : ∀ H, SqT K H T1 []
/-- what is no list stays -/
theorem at_grw {H H' : Hp} {a b : Addr} {i : Int} {r : List V} {o : HO} (ha : H a = some (.lst (.int i :: r))) (g : Grw a H H') (h : H b = some o) (n : ∀ xs, o ≠ .lst xs) : H' b = some o := g _ _ (fun e => by
  subst e
  rw [ha] at h
  cases h
  exact n _ rfl) h
theorem FrameAt.grow {C p a : Addr} {H H' : Hp} {v1 v2 v3 : V} {ps : List (Str × Str)} {qs rs : List Str} {i : Int} {r : List V} (f : FrameAt C H p v1 v2 v3 ps qs rs) (ha : H a = some (.lst (.int i :: r))) (g : Grw a H H') : FrameAt C H' p v1 v2 v3 ps qs rs := by
  obtain ⟨⟨dx, t, d, e, h1, h2, h3, h4⟩, h5, h6, h7⟩ := f
  refine ⟨⟨dx, t, d, e, at_grw ha g h1 (fun _ z => nomatch z), at_grw ha g h2 (fun _ z => nomatch z), at_grw ha g h3 (fun _ z => nomatch z), at_grw ha g h4 (fun _ z => nomatch z)⟩, Shw.off ha g (by simp only [offD, off_prs]) h5, txts_off ha g h6, txts_off ha g h7⟩
/-- the words that own names are drawn from -/
def KW : List Str := ["k", "kk", "new", "own"]
def ownOf (ws : List Str) : List Str := KW.filter fun z => !decide (z ∈ ws)
theorem KW_ok : ∀ z ∈ KW, nameS z = true ∧ gd (.str z) = true ∧ z ∈ TW := by decide +kernel
theorem KW_nd : KW.Nodup := by decide +kernel
theorem own_ok {ws fs ls : List Str} (h : (fs ++ ls).Perm (ownOf ws)) (n : fs.length ≤ 2) : OwnOk ws fs ∧ (∀ z ∈ fs, gd (.str z) = true) ∧ (∀ z ∈ fs, z ∈ TW) := by
  have mem : ∀ z ∈ fs, z ∈ KW ∧ z ∉ ws := fun z hz => by
    have := h.subset (List.mem_append_left ls hz)
    unfold ownOf at this
    rw [List.mem_filter] at this
    refine ⟨this.1, fun e => ?_⟩
    have z2 := this.2
    rw [decide_eq_true e] at z2
    cases z2
  have nd : fs.Nodup := (List.nodup_append.mp (h.nodup_iff.mpr (KW_nd.sublist List.filter_sublist))).1
  refine ⟨⟨n, fun z hz => (KW_ok z (mem z hz).1).1, ?_, fun z hz => (mem z hz).2⟩, fun z hz => (KW_ok z (mem z hz).1).2.1, fun z hz => (KW_ok z (mem z hz).1).2.2⟩
  exact congrArg List.length (onceS_id nd)
section
variable {P : Program} {w : World} {K : PySem.W.Frag} {mg : Str → Option Value} {base : Heap} {C T0 T1 f : Addr} {cdv : Value} {A : Around} {outer : List Env} {s0 : Shared} {H0 : Hp} {E : XK} {k : Nat}
def tr0 : TS := fun D σ H => ∃ (a p l : Addr) (v1 v2 v3 : V) (ps : List (Str × Str)) (qs rs : List Str), σ = [some (.ref a), some (.ref p), some (.ref l), none, none, none, none, none, none, none, none, none] ∧ PtQ H l v1 v2 v3 ps qs rs ∧
  ∀ (N : Addr) (H' : Hp), Same H H' → H N = none → H' N = some (.lst ((ownOf (wordsOf ps qs rs)).map V.str)) → D.nx [some (.ref a), some (.ref p), some (.ref l), some (.ref N), none, none, none, none, none, none, none, none] H'
theorem strs_of {H : Hp} : ∀ {ys : List V} {zs : List Str}, ShwAll H ys (zs.map PyData.str) → ys = zs.map V.str
  | _, [], .nil => rfl
  | _, z :: zs, .cons a r => by
    cases a
    rw [strs_of r]
    rfl
theorem fil_str (T : Str → Bool) (T' : PyData → Bool) (h : ∀ z, T' (.str z) = T z) : ∀ zs : List Str, (zs.map PyData.str).filter T' = (zs.filter T).map PyData.str
  | [] => rfl
  | z :: zs => by
    rw [List.map_cons, List.filter_cons, List.filter_cons, h, fil_str T T' h zs]
    cases T z <;> rfl
theorem tr_0 (R : TF P w K mg base C T0 T1) (hr : Room k (A.deeper (envOfC "_law_terms_right" (defScope sTR) s0.heap.objs.size f cdv))) (hk : 8 ≤ k) : PS (TX P w K mg base f cdv A outer s0 H0 E).nox (stT 0) tr0 := by
  refine ps_imp (ps_setLc (i := 3) (own := [("_law_name", 4)]) (g := gName 4) rfl scTR.nd rfl rfl (sw_true rfl rfl rfl (by decide +kernel)) (pi_tup (pe_tup (pa_cons pe_str (pa_cons pe_str (pa_cons pe_str (pa_cons pe_str pa_nil)))))) (blkOk_by (N := nTR) (sc := defScope sTR) (by decide +kernel))
    (fun _ _ _ _ _ => pg_name (i := 4) scTR.nd rfl (Or.inl rfl) (Or.inr rfl)) (fun _ _ _ _ _ => pts_one (pt_cmpR (r := rIn K true) op_notIn_seq (pv 4) (pe_fnc R.allOf hr (by omega) (by rfl) pass0 (pa_cons (pv 2) pa_nil)) (by with_unfolding_all rfl))) (fun _ _ _ _ _ => pv 4)) ?_
  rintro D σ H ⟨a, p, l, v1, v2, v3, ps, qs, rs, rfl, pq, q⟩
  have l1 := pq.g.l1
  have l2 := pq.g.l2
  have l3 := pq.g.l3
  refine ⟨(by rw [sizeLine_eq]; show 4 ≤ _; decide), fun t nt => ?_⟩
  have st := same_upd (p := t) (o := .tup [.str "k", .str "kk", .str "new", .str "own"]) nt
  have ht : (upd H t (.tup [.str "k", .str "kk", .str "new", .str "own"])) t = some (.tup (KW.map V.str)) := upd_same
  generalize upd H t (.tup [.str "k", .str "kk", .str "new", .str "own"]) = H1 at st ht ⊢
  refine ⟨t, rfl, ⟨_, SqT.of ht⟩, fun L nL => ?_⟩
  refine lc_tupF (K := K) (fun d => match d with | .str z => !decide (z ∈ wordsOf ps qs rs) | _ => false) ht nL (by show 4 ≤ 100000; decide) (shw_strs KW) (fun x d H' QY QN hd sd s1 y n => ?_) (fun H' ys s1 d1 sy => ?_)
  · obtain ⟨z, hz, rfl⟩ := List.mem_map.mp hd
    cases sd
    have pq1 := pq.same (st.trans s1)
    refine ⟨rfl, .str z, rfl, .ref l, rfl, l, v1, v2, v3, ps, qs, rs, rfl, pq1.hl, pq1.y1, pq1.y2, pq1.y3, by omega, by omega, by omega, fun L1 H2 w2 e2 => ?_⟩
    refine ⟨L1, _, rfl, .inl (SqL.of e2), rfl, ?_, _, rfl, ?_⟩
    · rw [List.all_map]
      exact List.all_eq_true.mpr fun _ _ => rfl
    · rw [inV_strs]
      cases e : (!decide (z ∈ wordsOf ps qs rs)) with
      | true => exact iteT ⟨_, rfl, y e H2 w2⟩
      | false => exact iteF (n e H2 w2)
  · rw [fil_str (fun z => !decide (z ∈ wordsOf ps qs rs)) _ (fun _ => rfl)] at sy
    have e := strs_of sy
    subst e
    exact q L H' (st.trans s1) (none_back st nL) d1
def tr1 (C : Addr) : TS := fun D σ H => ∃ (a p l N : Addr) (v1 v2 v3 : V) (ps : List (Str × Str)) (qs rs : List Str) (x y c : Int), σ = [some (.ref a), some (.ref p), some (.ref l), some (.ref N), none, none, none, none, none, none, none, none] ∧ H a = some (crl x y c) ∧ Cr x y c ∧ c ≤ 800000 ∧
  H N = some (.lst ((ownOf (wordsOf ps qs rs)).map V.str)) ∧ N ≠ a ∧
  ∀ (M : Addr) (own : List Str) (x' c' : Int) (H' : Hp), OwnOk (wordsOf ps qs rs) own → (∀ z ∈ own, gd (.str z) = true) → (∀ z ∈ own, z ∈ TW) → Txts H' (.ref M) own → H' a = some (crl x' y c') → Cr x' y c' → c' ≤ c + 3 → Grw a H H' → D.nx [some (.ref a), some (.ref p), some (.ref l), some (.ref N), none, some (.ref M), none, none, none, none, none, none] H'
theorem tr_1 (R : TF P w K mg base C T0 T1) (hr : Room k (A.deeper (envOfC "_law_terms_right" (defScope sTR) s0.heap.objs.size f cdv))) (hk : 8 ≤ k) : PS (TX P w K mg base f cdv A outer s0 H0 E).nox (stT 1) (tr1 C) := by
  refine ps_imp (ps_set (i := 5) scTR.nd rfl (.inl rfl) (pe_callTy call_tuple_of (by rfl) R.B.tuple (by decide +kernel) (pa_cons (pe_fnc R.few hr (by omega) (by rfl) pass0 (pa_cons (pv 0) (pa_cons (pv 3) (pa_cons (pe_fnc R.fish hr (by omega) (by rfl) pass0 (pa_cons (pv 0) (pa_cons pe_int pa_nil))) pa_nil)))) pa_nil))) ?_
  rintro D σ H ⟨a, p, l, N, v1, v2, v3, ps, qs, rs, x, y, c, rfl, ha, C1, hc, hN, Na, q⟩
  refine ⟨.ref a, rfl, .ref N, rfl, .ref a, rfl, a, x, y, c, 3, rfl, ha, C1, by omega, by omega, by omega, fun r x1 c1 r0 r3 C2 e1 => ?_⟩
  have er : r = ((r.toNat : Nat) : Int) := (Int.toNat_of_nonneg r0).symm
  have g1 : Grw a H (upd H a (crl x1 y c1)) := Grw.upd
  have lo : (ownOf (wordsOf ps qs rs)).length ≤ 4 := List.length_filter_le _ KW
  refine ⟨a, N, x1, y, c1, _, r.toNat, by rw [← er]; rfl, Na, upd_same, C2, by omega, g1 _ _ Na hN, by omega, by omega, fun L fs ls x2 c2 H2 lf pm C3 e2 ha2 g2 La hL => ?_⟩
  refine ⟨L, _, rfl, .inl ⟨SqL.of hL, fun M nM => ?_⟩⟩
  have sM := same_upd (p := M) (o := .tup (fs.map V.str)) nM
  obtain ⟨o1, o2, o3⟩ := own_ok pm (by omega)
  exact q M fs x2 c2 _ o1 o2 o3 ⟨M, rfl, upd_same⟩ (sM _ _ ha2) C3 (by omega) (g1.trans (g2.trans (Grw.of sM)))
end
end K02

set_option autoImplicit false
set_option maxRecDepth 100000
set_option maxHeartbeats 4000000
/-! terms judged: the loop -/
namespace K02
open PySem PySem.Spec PyProof.Rows L2 KX
/-- what stays over the loop's turns -/
structure TI0 (C : Addr) (H : Hp) (p l M : Addr) (u1 u2 u3 v1 v2 v3 : V) (ps : List (Str × Str)) (qs rs own : List Str) : Prop where
  Fr : FrameAt C H p u1 u2 u3 ps qs rs
  pq : PtQ H l v1 v2 v3 ps qs rs
  tm : Txts H (.ref M) own
  ok : OwnOk (wordsOf ps qs rs) own
  gds : ∀ z ∈ own, gd (.str z) = true
  tw : ∀ z ∈ own, z ∈ TW
section
variable {C p l M : Addr} {u1 u2 u3 v1 v2 v3 : V} {ps : List (Str × Str)} {qs rs own : List Str} {H H' : Hp}
theorem TI0.same (t : TI0 C H p l M u1 u2 u3 v1 v2 v3 ps qs rs own) (s : Same H H') : TI0 C H' p l M u1 u2 u3 v1 v2 v3 ps qs rs own := ⟨t.Fr.same s, t.pq.same s, t.tm.same s, t.ok, t.gds, t.tw⟩
theorem TI0.grow {a : Addr} {i : Int} {r : List V} (t : TI0 C H p l M u1 u2 u3 v1 v2 v3 ps qs rs own) (ha : H a = some (.lst (.int i :: r))) (g : Grw a H H') : TI0 C H' p l M u1 u2 u3 v1 v2 v3 ps qs rs own := ⟨t.Fr.grow ha g, t.pq.grow ha g, txts_off ha g t.tm, t.ok, t.gds, t.tw⟩
end
abbrev StT (a p l M : Addr) (o3 o6 o7 o8 o9 o10 o11 : Option V) : L2.St := [some (.ref a), some (.ref p), some (.ref l), o3, none, some (.ref M), o6, o7, o8, o9, o10, o11]
def tbody : List Stmt := match stT 2 with
  | .For _ _ b _ _ => b
  | _ => []
def stTb (i : Nat) : Stmt := tbody.getD i (.Pass ⟨0, 0, 0, 0⟩)
def SHv : List V := [.int 0, .int 1, .int (-3), .int ((10 : Int) ^ (59 : Int).toNat), .int (1 - (10 : Int) ^ (60 : Int).toNat)]
theorem SHv_ok : ∀ v ∈ SHv, ∃ n : Int, v = .int n ∧ isIg (.int n) = true := by
  intro v hv
  unfold SHv at hv
  simp only [List.mem_cons, List.not_mem_nil, or_false] at hv
  rcases hv with rfl | rfl | rfl | rfl | rfl
  all_goals exact ⟨_, rfl, by decide +kernel⟩
theorem bl_show (b1 b2 : Bool) : (PyData.list [.bool b1, .bool b2]).showable = true ∧ (PyData.list [.bool b1, .bool b2]).depth ≤ 60 ∧ (PyData.list [.bool b1, .bool b2]).shown.length ≤ 1000000 := by
  cases b1 <;> cases b2 <;> exact ⟨by decide +kernel, by decide +kernel, by decide +kernel⟩
section
variable {P : Program} {w : World} {K : PySem.W.Frag} {mg : Str → Option Value} {base : Heap} {C T0 T1 f : Addr} {cdv : Value} {A : Around} {outer : List Env} {s0 : Shared} {H0 : Hp} {E : XK} {k : Nat}
def tb0 (C : Addr) : TS := fun D σ H => ∃ (a p l M : Addr) (u1 u2 u3 v1 v2 v3 : V) (ps : List (Str × Str)) (qs rs own : List Str) (o3 o6 o7 o8 o9 o10 o11 : Option V) (x y c : Int), σ = StT a p l M o3 o6 o7 o8 o9 o10 o11 ∧ TI0 C H p l M u1 u2 u3 v1 v2 v3 ps qs rs own ∧ H a = some (crl x y c) ∧ Cr x y c ∧ c ≤ 850000 ∧
  ∀ (v : V) (d : PyData) (n x' c' : Int) (H' : Hp), Shw H' v d → wrdD d = true → isIg (.int n) = true → TI0 C H' p l M u1 u2 u3 v1 v2 v3 ps qs rs own → H' a = some (crl x' y c') → Cr x' y c' → c' ≤ c + 20 → Grw a H H' → D.nx (StT a p l M o3 o6 (some v) (some (.int n)) o9 o10 o11) H'
theorem tbd0 (R : TF P w K mg base C T0 T1) (hr : Room k (A.deeper (envOfC "_law_terms_right" (defScope sTR) s0.heap.objs.size f cdv))) (hk : 8 ≤ k) : PS (TX P w K mg base f cdv A outer s0 H0 E).nox (stTb 0) (tb0 C) := by
  refine ps_imp (ps_par (i := 7) (j := 8) rfl scTR.nd rfl rfl (by decide) rfl rfl (pa_cons (pe_fnc R.near hr (by omega) (by rfl) pass0 (pa_cons (pv 0) (pa_cons (pv 2) (pa_cons (pv 5) pa_nil))))
    (pa_cons (pe_fnc R.one hr (by omega) (by rfl) pass0 (pa_cons (pv 0) (pa_cons (pe_lst (pa_cons pe_int (pa_cons pe_int (pa_cons (pe_un un_neg pe_int) (pa_cons (pe_op op_pow pe_int pe_int) (pa_cons (pe_op op_sub pe_int (pe_op op_pow pe_int pe_int)) pa_nil)))))) pa_nil))) pa_nil)) (by rfl)) ?_
  rintro D σ H ⟨a, p, l, M, u1, u2, u3, v1, v2, v3, ps, qs, rs, own, o3, o6, o7, o8, o9, o10, o11, x, y, c, rfl, ti, ha, C1, hc, q⟩
  have c59 : CPow 10 59 := ⟨by decide, by decide +kernel⟩
  have c60 : CPow 10 60 := ⟨by decide, by decide +kernel⟩
  refine ⟨.ref a, rfl, .ref l, rfl, .ref M, rfl, ?_⟩
  show tNil _ _ _
  unfold tNil
  refine ⟨a, l, .ref M, v1, v2, v3, ps, qs, rs, own, x, y, c, rfl, ha, C1, by omega, ti.pq, ti.tm, ti.ok.few, ti.tw, fun v d x1 c1 H1 sv od wd ha1 C2 e1 g1 => ?_⟩
  refine ⟨.ref a, rfl, 3, rfl, 10, 59, rfl, rfl, c59, 10, 60, rfl, rfl, c60, _, _, rfl, rfl, (by rw [sizeLine_eq]; show 5 ≤ _; decide), fun L nL => ?_⟩
  have sL := same_upd (p := L) (o := .lst SHv) nL
  have ha2 := sL _ _ ha1
  refine ⟨a, .ref L, x1, y, c1, rfl, ha2, C2, by omega, .inl ⟨L, SHv, rfl, upd_same, (ne_of_none ha1 nL).symm, by decide, by decide, fun r u x2 c2 hu C3 e2 => ⟨_, _, rfl, ?_⟩⟩⟩
  obtain ⟨n, rfl, ig⟩ := SHv_ok u (List.mem_of_getElem? hu)
  have g2 : Grw a (upd H1 L (.lst SHv)) (upd (upd H1 L (.lst SHv)) a (crl x2 y c2)) := Grw.upd
  have g02 : Grw a H (upd (upd H1 L (.lst SHv)) a (crl x2 y c2)) := g1.trans ((Grw.of sL).trans g2)
  exact q v d n x2 c2 _ (Shw.off ha2 g2 od (Shw.same sv sL)) wd ig (ti.grow ha g02) upd_same C3 (by omega) g02
def tb1 (C : Addr) : TS := fun D σ H => ∃ (a p l M : Addr) (u1 u2 u3 v1 v2 v3 : V) (ps : List (Str × Str)) (qs rs own : List Str) (o3 o6 o8 o9 o10 o11 : Option V) (v : V) (d : PyData), σ = StT a p l M o3 o6 (some v) o8 o9 o10 o11 ∧ TI0 C H p l M u1 u2 u3 v1 v2 v3 ps qs rs own ∧ Shw H v d ∧
  ∀ (L : Addr) (H' : Hp), Same H H' → H' L = some (.lst [.bl (isPos ps qs rs own d), .bl (isVal ps qs rs own d)]) → D.nx (StT a p l M o3 o6 (some v) o8 (some (.ref L)) o10 o11) H'
theorem tbd1 (R : TF P w K mg base C T0 T1) (hr : Room k (A.deeper (envOfC "_law_terms_right" (defScope sTR) s0.heap.objs.size f cdv))) (hk : 8 ≤ k) : PS (TX P w K mg base f cdv A outer s0 H0 E).nox (stTb 1) (tb1 C) := by
  refine ps_imp (ps_set (i := 9) scTR.nd rfl (.inl rfl) (pe_lst (pa_cons (pe_fnc R.plc hr (by omega) (by rfl) pass0 (pa_cons (pv 2) (pa_cons (pv 7) (pa_cons (pv 5) pa_nil)))) (pa_cons (pe_fnc R.wor hr (by omega) (by rfl) pass0 (pa_cons (pv 2) (pa_cons (pv 7) (pa_cons (pv 5) pa_nil)))) pa_nil)))) ?_
  rintro D σ H ⟨a, p, l, M, u1, u2, u3, v1, v2, v3, ps, qs, rs, own, o3, o6, o8, o9, o10, o11, v, d, rfl, ti, sv, q⟩
  have l1 := ti.pq.g.l1
  have l2 := ti.pq.g.l2
  have l3 := ti.pq.g.l3
  have lo := ti.ok.few
  refine ⟨.ref l, rfl, v, rfl, .ref M, rfl, ?_⟩
  show tNil _ _ _
  unfold tNil
  refine ⟨l, v1, v2, v3, ps, qs, rs, v, d, .ref M, own, rfl, ti.pq.hl, ti.pq.y1, ti.pq.y2, ti.pq.y3, sv, ti.tm, by omega, by omega, by omega, fun H1 w1 => ?_⟩
  have t1 := ti.same w1
  refine ⟨.ref l, rfl, v, rfl, .ref M, rfl, ?_⟩
  refine ⟨l, v1, v2, v3, ps, qs, rs, v, d, .ref M, own, rfl, t1.pq.hl, t1.pq.y1, t1.pq.y2, t1.pq.y3, Shw.same sv w1, t1.tm, by omega, by omega, by omega, by omega, fun H2 w2 => ?_⟩
  refine ⟨(by rw [sizeLine_eq]; show 2 ≤ _; decide), fun L nL => ?_⟩
  have sL := same_upd (p := L) (o := .lst [.bl (isPlc ps qs own d), .bl (isWor ps qs rs own d)]) nL
  refine q L _ (w1.trans (w2.trans sL)) ?_
  rw [upd_same, plc_pos ti.pq.g.nd, wor_val ti.pq.g.nd]
def tb2 (C : Addr) : TS := fun D σ H => ∃ (a p l M : Addr) (u1 u2 u3 v1 v2 v3 : V) (ps : List (Str × Str)) (qs rs own : List Str) (o3 o6 o8 o9 o10 o11 : Option V) (v : V) (d : PyData), σ = StT a p l M o3 o6 (some v) o8 o9 o10 o11 ∧ TI0 C H p l M u1 u2 u3 v1 v2 v3 ps qs rs own ∧ Shw H v d ∧
  ∀ (L : Addr) (H' : Hp), Same H H' → H' L = some (.lst [.bl (isPos ps qs rs own d), .bl (isVal ps qs rs own d)]) → D.nx (StT a p l M o3 o6 (some v) o8 o9 (some (.ref L)) o11) H'
theorem tbd2 (R : TF P w K mg base C T0 T1) (hr : Room k (A.deeper (envOfC "_law_terms_right" (defScope sTR) s0.heap.objs.size f cdv))) (hk : 8 ≤ k) : PS (TX P w K mg base f cdv A outer s0 H0 E).nox (stTb 2) (tb2 C) := by
  refine ps_imp (ps_set (i := 10) scTR.nd rfl (.inl rfl) (pe_lst (pa_cons (pe_omk (pl := _) (ES := fun _ => E0) R.isP R.T.cl hr (by omega) (fun _ => pass0At) (pv 1) (pa_cons (pv 7) pa_nil) (pk_cons (pv 5) pk_nil))
    (pa_cons (pe_omk (pl := _) (ES := fun _ => E0) R.isV R.T.cl hr (by omega) (fun _ => pass0At) (pv 1) (pa_cons (pv 7) pa_nil) (pk_cons (pv 5) pk_nil)) pa_nil)))) ?_
  rintro D σ H ⟨a, p, l, M, u1, u2, u3, v1, v2, v3, ps, qs, rs, own, o3, o6, o8, o9, o10, o11, v, d, rfl, ti, sv, q⟩
  obtain ⟨dx, t, d2, e4, ob, _⟩ := id ti.Fr.ob
  refine ⟨.ref p, rfl, p, dx, _, rfl, ob, lookup_zip_none (by decide +kernel), v, rfl, .ref M, rfl, rfl, rfl, p, u1, u2, u3, ps, qs, rs, v, d, .ref M, own, rfl, ti.Fr, sv, ti.tm.k, ti.ok, ti.gds, fun H1 w1 => ?_⟩
  have t1 := ti.same w1
  refine ⟨.ref p, rfl, p, dx, _, rfl, w1 _ _ ob, lookup_zip_none (by decide +kernel), v, rfl, .ref M, rfl, rfl, rfl, p, u1, u2, u3, ps, qs, rs, v, d, .ref M, own, rfl, t1.Fr, Shw.same sv w1, t1.tm.k, t1.ok, t1.gds, fun H2 w2 => ?_⟩
  refine ⟨(by rw [sizeLine_eq]; show 2 ≤ _; decide), fun L nL => ?_⟩
  exact q L _ (w1.trans (w2.trans (same_upd nL))) upd_same
def tb3 : TS := fun D σ H => ∃ (a p l M L1 L2' : Addr) (o3 o6 o7 o8 o11 : Option V) (b1 b2 : Bool), σ = StT a p l M o3 o6 o7 o8 (some (.ref L1)) (some (.ref L2')) o11 ∧ H L1 = some (.lst [.bl b1, .bl b2]) ∧ H L2' = some (.lst [.bl b1, .bl b2]) ∧ D.nx σ H
theorem tbd3 (R : TF P w K mg base C T0 T1) (hG : (A.deeper (envOfC "_law_terms_right" (defScope sTR) s0.heap.objs.size f cdv)).guards = some []) (hr : Room k (A.deeper (envOfC "_law_terms_right" (defScope sTR) s0.heap.objs.size f cdv))) (hk : 8 ≤ k) : PS (TX P w K mg base f cdv A outer s0 H0 E).nox (stTb 3) tb3 := by
  refine ps_imp (ps_if (pt_cmpR op_ne (pe_callB (call_reprL hG hr.units) (by rfl) R.mRepr (by decide +kernel) (pa_cons (pv 10) pa_nil)) (pe_callB (call_reprL hG hr.units) (by rfl) R.mRepr (by decide +kernel) (pa_cons (pv 9) pa_nil)) (nomark _)) (pss_one (ps_ret pe_bl)) pss_nil) ?_
  rintro D σ H ⟨a, p, l, M, L1, L2', o3, o6, o7, o8, o11, b1, b2, rfl, h1, h2, q⟩
  obtain ⟨z1, z2, z3⟩ := bl_show b1 b2
  refine ⟨.ref L2', rfl, L2', .bl b1, _, [.bool b1, .bool b2], rfl, h2, .cons (.bl _) (.cons (.bl _) .nil), z1, z2, z3, .ref L1, rfl, L1, .bl b1, _, [.bool b1, .bool b2], rfl, h1, .cons (.bl _) (.cons (.bl _) .nil), z1, z2, z3, rfl, _, rfl, ?_⟩
  exact iteF' (by simp) q
def tb4 (C : Addr) : TS := fun D σ H => ∃ (a p l M : Addr) (u1 u2 u3 v1 v2 v3 : V) (ps : List (Str × Str)) (qs rs own : List Str) (o3 o6 o8 o9 o10 o11 : Option V) (v : V) (d : PyData), σ = StT a p l M o3 o6 (some v) o8 o9 o10 o11 ∧ TI0 C H p l M u1 u2 u3 v1 v2 v3 ps qs rs own ∧ Shw H v d ∧
  ∀ (L : Addr) (H' : Hp), Same H H' → H' L = some (.lst [.bl (isPos ps qs rs [] d), .bl (isVal ps qs rs [] d)]) → D.nx (StT a p l M o3 o6 (some v) o8 (some (.ref L)) o10 o11) H'
theorem tbd4 (R : TF P w K mg base C T0 T1) (hr : Room k (A.deeper (envOfC "_law_terms_right" (defScope sTR) s0.heap.objs.size f cdv))) (hk : 8 ≤ k) : PS (TX P w K mg base f cdv A outer s0 H0 E).nox (stTb 4) (tb4 C) := by
  refine ps_imp (ps_set (i := 9) scTR.nd rfl (.inl rfl) (pe_lst (pa_cons (pe_fnc R.plc hr (by omega) (by rfl) pass0 (pa_cons (pv 2) (pa_cons (pv 7) (pa_cons (pe_tup pa_nil) pa_nil)))) (pa_cons (pe_fnc R.wor hr (by omega) (by rfl) pass0 (pa_cons (pv 2) (pa_cons (pv 7) (pa_cons (pe_tup pa_nil) pa_nil)))) pa_nil)))) ?_
  rintro D σ H ⟨a, p, l, M, u1, u2, u3, v1, v2, v3, ps, qs, rs, own, o3, o6, o8, o9, o10, o11, v, d, rfl, ti, sv, q⟩
  have l1 := ti.pq.g.l1
  have l2 := ti.pq.g.l2
  have l3 := ti.pq.g.l3
  refine ⟨.ref l, rfl, v, rfl, (by rw [sizeLine_eq]; decide), fun t1 n1 => ?_⟩
  have s1 := same_upd (p := t1) (o := .tup []) n1
  have i1 := ti.same s1
  show tNil _ _ _
  unfold tNil
  refine ⟨l, v1, v2, v3, ps, qs, rs, v, d, .ref t1, [], rfl, i1.pq.hl, i1.pq.y1, i1.pq.y2, i1.pq.y3, Shw.same sv s1, ⟨t1, rfl, upd_same⟩, by omega, by omega, by decide, fun H1 w1 => ?_⟩
  have w01 := s1.trans w1
  refine ⟨.ref l, rfl, v, rfl, (by rw [sizeLine_eq]; decide), fun t2 n2 => ?_⟩
  have s2 := same_upd (p := t2) (o := .tup []) n2
  have w02 := w01.trans s2
  have i2 := ti.same w02
  refine ⟨l, v1, v2, v3, ps, qs, rs, v, d, .ref t2, [], rfl, i2.pq.hl, i2.pq.y1, i2.pq.y2, i2.pq.y3, Shw.same sv w02, ⟨t2, rfl, upd_same⟩, by omega, by omega, by omega, by decide, fun H2 w2 => ?_⟩
  refine ⟨(by rw [sizeLine_eq]; show 2 ≤ _; decide), fun L nL => ?_⟩
  have sL := same_upd (p := L) (o := .lst [.bl (isPlc ps qs [] d), .bl (isWor ps qs rs [] d)]) nL
  refine q L _ (w02.trans (w2.trans sL)) ?_
  rw [upd_same, plc_pos ti.pq.g.nd, wor_val ti.pq.g.nd]
theorem own_nil (ws : List Str) : OwnOk ws [] := ⟨by decide, (fun z hz => nomatch hz), rfl, (fun z hz => nomatch hz)⟩
def tb5 (C : Addr) : TS := fun D σ H => ∃ (a p l M L : Addr) (u1 u2 u3 v1 v2 v3 : V) (ps : List (Str × Str)) (qs rs own : List Str) (o3 o6 o8 o10 o11 : Option V) (v : V) (d : PyData), σ = StT a p l M o3 o6 (some v) o8 (some (.ref L)) o10 o11 ∧ TI0 C H p l M u1 u2 u3 v1 v2 v3 ps qs rs own ∧ Shw H v d ∧
  H L = some (.lst [.bl (isPos ps qs rs [] d), .bl (isVal ps qs rs [] d)]) ∧ ∀ H', Same H H' → D.nx σ H'
theorem tbd5 (R : TF P w K mg base C T0 T1) (hG : (A.deeper (envOfC "_law_terms_right" (defScope sTR) s0.heap.objs.size f cdv)).guards = some []) (hr : Room k (A.deeper (envOfC "_law_terms_right" (defScope sTR) s0.heap.objs.size f cdv))) (hk : 8 ≤ k) : PS (TX P w K mg base f cdv A outer s0 H0 E).nox (stTb 5) (tb5 C) := by
  refine ps_imp (ps_if (pt_cmpR op_ne (pe_callB (call_reprL hG hr.units) (by rfl) R.mRepr (by decide +kernel) (pa_cons (pe_lst (pa_cons (pe_omd (pl := _) R.isP0 R.T.cl hr (by omega) pass0 (pv 1) (pa_cons (pv 7) pa_nil)) (pa_cons (pe_omd (pl := _) R.isV0 R.T.cl hr (by omega) pass0 (pv 1) (pa_cons (pv 7) pa_nil)) pa_nil))) pa_nil))
    (pe_callB (call_reprL hG hr.units) (by rfl) R.mRepr (by decide +kernel) (pa_cons (pv 9) pa_nil)) (nomark _)) (pss_one (ps_ret pe_bl)) pss_nil) ?_
  rintro D σ H ⟨a, p, l, M, L, u1, u2, u3, v1, v2, v3, ps, qs, rs, own, o3, o6, o8, o10, o11, v, d, rfl, ti, sv, hL, q⟩
  obtain ⟨dx, t, d2, e4, ob, _⟩ := id ti.Fr.ob
  obtain ⟨z1, z2, z3⟩ := bl_show (isPos ps qs rs [] d) (isVal ps qs rs [] d)
  refine ⟨.ref p, rfl, p, dx, _, rfl, ob, lookup_zip_none (by decide +kernel), v, rfl, p, u1, u2, u3, ps, qs, rs, v, d, .ref T0, [], rfl, ti.Fr, sv, ⟨T0, rfl, R.t0 _⟩, own_nil _, (fun z hz => nomatch hz), fun H1 w1 => ?_⟩
  have t1 := ti.same w1
  refine ⟨.ref p, rfl, p, dx, _, rfl, w1 _ _ ob, lookup_zip_none (by decide +kernel), v, rfl, p, u1, u2, u3, ps, qs, rs, v, d, .ref T1, [], rfl, t1.Fr, Shw.same sv w1, ⟨T1, rfl, R.t1 _⟩, own_nil _, (fun z hz => nomatch hz), fun H2 w2 => ?_⟩
  refine ⟨(by rw [sizeLine_eq]; show 2 ≤ _; decide), fun L2' nL => ?_⟩
  have sL := same_upd (p := L2') (o := .lst [.bl (isPos ps qs rs [] d), .bl (isVal ps qs rs [] d)]) nL
  have w03 := w1.trans (w2.trans sL)
  refine ⟨L2', .bl _, _, [.bool (isPos ps qs rs [] d), .bool (isVal ps qs rs [] d)], rfl, upd_same, .cons (.bl _) (.cons (.bl _) .nil), z1, z2, z3, .ref L, rfl, L, .bl _, _, [.bool (isPos ps qs rs [] d), .bool (isVal ps qs rs [] d)], rfl, w03 _ _ hL, .cons (.bl _) (.cons (.bl _) .nil), z1, z2, z3, rfl, _, rfl, ?_⟩
  exact iteF' (by simp) (q _ w03)
end
end K02

set_option autoImplicit false
set_option maxRecDepth 100000
set_option maxHeartbeats 4000000
/-! terms judged: what is shifted; the def -/
namespace K02
open PySem PySem.Spec PyProof.Rows L2 KX
theorem term_str : reprText ("term" : Str) = "'term'" := by decide +kernel
section
variable {P : Program} {w : World} {K : PySem.W.Frag} {mg : Str → Option Value} {base : Heap} {C T0 T1 f : Addr} {cdv : Value} {A : Around} {outer : List Env} {s0 : Shared} {H0 : Hp} {E : XK} {k : Nat}
def tb6 : TS := fun D σ H => ∃ (a p l M : Addr) (o3 o6 o7 o8 o9 o10 o11 : Option V), σ = StT a p l M o3 o6 o7 o8 o9 o10 o11 ∧ D.nx (StT a p l M o3 o6 o7 o8 o9 o10 (some (.str "term"))) H
theorem tbd6 : PS (TX P w K mg base f cdv A outer s0 H0 E).nox (stTb 6) tb6 := by
  refine ps_imp (ps_set (i := 11) scTR.nd rfl (.inl rfl) pe_str) ?_
  rintro D σ H ⟨a, p, l, M, o3, o6, o7, o8, o9, o10, o11, rfl, q⟩
  exact q
theorem ends_shape {d : PyData} {H : Hp} {v : V} (sv : Shw H v d) (e : endsI d = true) : ∃ (b : Addr) (xs : List V), v = .ref b ∧ H b = some (.tup xs) ∧ atI xs (-1) = some (.int (lastI d)) ∧
    ∃ ds, d = .tuple ds ∧ ShwAll H xs ds ∧ (∀ m, upD m d = .tuple (cutA ds none (some (-1)) ++ [.int (lastI d + m)])) ∧ ds.length ≤ 4 := by
  cases sv with
  | @tup b xs ds e1 ha =>
    match ds, e, ha with
    | [d0, .int i], _, ha =>
      obtain ⟨x0, x1, _, _, rfl, ed, s0, s1⟩ := two_of ha rfl
      cases ed
      obtain rfl := shw_int s1
      exact ⟨b, _, rfl, e1, rfl, _, rfl, ha, fun m => rfl, by show 2 ≤ 4; decide⟩
    | [d0, d1, d2, .int i], _, ha =>
      obtain ⟨x0, x1, x2, x3, _, _, _, _, rfl, ed, s0, s1, s2, s3⟩ := four_of ha rfl
      cases ed
      obtain rfl := shw_int s3
      have el : lastI (.tuple [d0, d1, d2, .int i]) = i := by cases d1 <;> rfl
      refine ⟨b, _, rfl, e1, by rw [el]; rfl, _, rfl, ha, fun m => ?_, by show 4 ≤ 4; decide⟩
      rw [upD4, el]
      rfl
  | _ => cases e
def tb7 : TS := fun D σ H => ∃ (a p l M L : Addr) (ps : List (Str × Str)) (qs rs : List Str) (o3 o6 o10 : Option V) (v : V) (d : PyData) (n : Int), σ = StT a p l M o3 o6 (some v) (some (.int n)) (some (.ref L)) o10 (some (.str "term")) ∧ Shw H v d ∧
  H L = some (.lst [.bl (isPos ps qs rs [] d), .bl (isVal ps qs rs [] d)]) ∧ ∀ r H', Same H H' → Due H' r ps qs rs d n → D.nx (StT a p l M o3 o6 (some v) (some (.int n)) (some (.ref L)) o10 (some r)) H'
theorem inV_bls (b1 b2 : Bool) : inV (.bl true) [.bl b1, .bl b2] = (b1 || b2) := by cases b1 <;> cases b2 <;> rfl
theorem tbd7 (R : TF P w K mg base C T0 T1) (hr : Room k (A.deeper (envOfC "_law_terms_right" (defScope sTR) s0.heap.objs.size f cdv))) (hk : 8 ≤ k) : PS (TX P w K mg base f cdv A outer s0 H0 E).nox (stTb 7) tb7 := by
  refine ps_imp (ps_if (PW.pt (pw_and (pt_cmpR op_in_seq pe_bl (pv 9) (by with_unfolding_all rfl)) (pw_and1 (pt_val (pe_fnc R.num hr (by omega) (by rfl) pass0 (pa_cons (pe_op op_add (pe_ix ix_tup (pv 7) (pe_un un_neg pe_int) (fun _ _ => rfl)) (pv 8)) pa_nil))))))
    (pss_one (ps_set (i := 11) scTR.nd rfl (.inl rfl) (pe_op op_catA (pe_slice sl_tupA (pv 7) po_none (po_some (pe_un un_neg pe_int))) (pe_tup (pa_cons (pe_op op_add (pe_ix ix_tup (pv 7) (pe_un un_neg pe_int) (fun _ _ => rfl)) (pv 8)) pa_nil))))) pss_nil) ?_
  rintro D σ H ⟨a, p, l, M, L, ps, qs, rs, o3, o6, o10, v, d, n, rfl, sv, hL, q⟩
  refine ⟨.ref L, rfl, L, _, rfl, .inl (SqL.of hL), rfl, rfl, _, rfl, ?_⟩
  rw [inV_bls]
  have et : (isPos ps qs rs [] d || isVal ps qs rs [] d) = isTrm ps qs rs d := rfl
  rw [et]
  cases e1 : isTrm ps qs rs d with
  | false =>
    refine iteF ?_
    exact q _ H (Same.refl H) (.inr ⟨by rw [e1]; rfl, rfl⟩)
  | true =>
    refine iteT ?_
    obtain ⟨b, xs, rfl, eb, el, ds, rfl, ha, eu, few⟩ := ends_shape sv (ends_trm e1)
    have tu := trm_up n e1
    refine ⟨.ref b, rfl, 1, rfl, b, _, -1, _, rfl, rfl, SqT.of eb, el, .int n, rfl, _, _, rfl, rfl, _, _, rfl, .int _, _, rfl, ?_⟩
    rw [← tu]
    cases e2 : isTrm ps qs rs (upD n (.tuple ds)) with
    | false =>
      refine iteF ?_
      exact q _ H (Same.refl H) (.inr ⟨by rw [e1, e2]; rfl, rfl⟩)
    | true =>
      refine iteT ?_
      refine ⟨.ref b, rfl, 1, rfl, -1, rfl, cut_shw sv fun v1 H1 w1 c1 => ?_⟩
      refine ⟨.ref b, rfl, 1, rfl, b, _, -1, _, rfl, rfl, SqT.of (w1 _ _ eb), el, .int n, rfl, _, _, rfl, rfl, (by rw [sizeLine_eq]; show 1 ≤ _; decide), fun t nt => ?_⟩
      have st := same_upd (p := t) (o := .tup [.int (lastI (.tuple ds) + n)]) nt
      have lc : (cutA ds none (some (-1))).length ≤ 4 := by
        unfold cutA
        have := List.length_take_le' (HT.sIx ds.length ds.length (some (-1)) - HT.sIx ds.length 0 none) (ds.drop (HT.sIx ds.length 0 none))
        rw [List.length_drop] at this
        omega
      refine cat_shw (Shw.same c1 st) (es := [.int (lastI (.tuple ds) + n)]) (.tup upd_same (.cons (.int _) .nil)) (by rw [sizeLine_eq]; show _ + 1 ≤ _; omega) fun v2 H2 w2 c2 => ?_
      rw [← eu n] at c2
      exact q v2 H2 (w1.trans (st.trans w2)) (.inl ⟨by rw [e1, e2]; rfl, c2⟩)
def tb8 (C : Addr) : TS := fun D σ H => ∃ (a p l M : Addr) (u1 u2 u3 : V) (ps : List (Str × Str)) (qs rs : List Str) (o3 o6 o9 o10 : Option V) (v r : V) (d : PyData) (n : Int), σ = StT a p l M o3 o6 (some v) (some (.int n)) o9 o10 (some r) ∧ FrameAt C H p u1 u2 u3 ps qs rs ∧ Shw H v d ∧ wrdD d = true ∧ isIg (.int n) = true ∧ Due H r ps qs rs d n ∧
  ∀ H', Same H H' → D.nx σ H'
theorem tbd8 (R : TF P w K mg base C T0 T1) (hG : (A.deeper (envOfC "_law_terms_right" (defScope sTR) s0.heap.objs.size f cdv)).guards = some []) (hr : Room k (A.deeper (envOfC "_law_terms_right" (defScope sTR) s0.heap.objs.size f cdv))) (hk : 8 ≤ k) : PS (TX P w K mg base f cdv A outer s0 H0 E).nox (stTb 8) (tb8 C) := by
  refine ps_imp (ps_if (pt_cmpR op_ne (pe_callB (CallR.or (call_reprT hG hr.units) call_reprS) (by rfl) R.mRepr (by decide +kernel) (pa_cons (pe_fnc R.lsh hr (by omega) (by rfl) pass0 (pa_cons (pv 1) (pa_cons (pv 7) (pa_cons (pv 8) pa_nil)))) pa_nil))
    (pe_callB (CallR.or (call_reprT hG hr.units) call_reprS) (by rfl) R.mRepr (by decide +kernel) (pa_cons (pv 11) pa_nil)) (nomark _)) (pss_one (ps_ret pe_bl)) pss_nil) ?_
  rintro D σ H ⟨a, p, l, M, u1, u2, u3, ps, qs, rs, o3, o6, o9, o10, v, r, d, n, rfl, Fr, sv, wd, ig, du, q⟩
  refine ⟨.ref p, rfl, v, rfl, .int n, rfl, ?_⟩
  show tNil _ _ _
  unfold tNil
  refine ⟨p, u1, u2, u3, ps, qs, rs, v, d, n, rfl, Fr, sv, ig, fun r2 H1 w1 du2 => ?_⟩
  have du1 := du.same w1
  rcases du2 with ⟨c2, s2⟩ | ⟨c2, rfl⟩
  · rcases du1 with ⟨_, s1⟩ | ⟨c1, _⟩
    · rw [Bool.and_eq_true] at c2
      have ok := tm_trm (wrd_up (m := n) wd (ends_trm c2.1)) c2.2
      obtain ⟨ds, ed⟩ : ∃ ds, upD n d = .tuple ds := by
        have e := ends_trm c2.2
        match upD n d, e with
        | .tuple ds, _ => exact ⟨ds, rfl⟩
      rw [ed] at s1 s2 ok
      obtain ⟨b2, _, rfl, _⟩ := shw_tup s2
      obtain ⟨b1, _, rfl, _⟩ := shw_tup s1
      refine .inl ⟨b2, ds, rfl, s2, ok.show_, ok.dep, ok.len, .ref b1, rfl, .inl ⟨b1, ds, rfl, s1, ok.show_, ok.dep, ok.len, rfl, _, rfl, ?_⟩⟩
      exact iteF' (by simp) (q H1 w1)
    · rw [c2] at c1
      cases c1
  · rcases du1 with ⟨c1, _⟩ | ⟨_, rfl⟩
    · rw [c2] at c1
      cases c1
    · refine .inr ⟨"term", rfl, by rw [term_str]; decide +kernel, .str "term", rfl, .inr ⟨"term", rfl, by rw [term_str]; decide +kernel, rfl, _, rfl, ?_⟩⟩
      exact iteF' (by simp) (q H1 w1)
def spTR (C : Addr) : Sp := fun vs H Q _ => ∃ (a p l : Addr) (u1 u2 u3 v1 v2 v3 : V) (ps : List (Str × Str)) (qs rs : List Str) (x y c : Int), vs = [.ref a, .ref p, .ref l] ∧ FrameAt C H p u1 u2 u3 ps qs rs ∧ PtQ H l v1 v2 v3 ps qs rs ∧ H a = some (crl x y c) ∧ Cr x y c ∧ c ≤ 800000 ∧
  ∀ (x' c' : Int) (H' : Hp), H' a = some (crl x' y c') → Cr x' y c' → c' ≤ c + 150 → Grw a H H' → Q (.bl true) H'
def tr2 (C : Addr) : TS := fun D σ H => ∃ (a p l M : Addr) (u1 u2 u3 v1 v2 v3 : V) (ps : List (Str × Str)) (qs rs own : List Str) (o3 : Option V) (x y c : Int), σ = StT a p l M o3 none none none none none none ∧ TI0 C H p l M u1 u2 u3 v1 v2 v3 ps qs rs own ∧ H a = some (crl x y c) ∧ Cr x y c ∧ c ≤ 800010 ∧
  ∀ (x' c' : Int) (H' : Hp) (σ' : L2.St), H' a = some (crl x' y c') → Cr x' y c' → c' ≤ c + 120 → Grw a H H' → D.nx σ' H'
theorem tr_2 (R : TF P w K mg base C T0 T1) (hG : (A.deeper (envOfC "_law_terms_right" (defScope sTR) s0.heap.objs.size f cdv)).guards = some []) (hr : Room k (A.deeper (envOfC "_law_terms_right" (defScope sTR) s0.heap.objs.size f cdv))) (hk : 8 ≤ k) : PS (TX P w K mg base f cdv A outer s0 H0 E).nox (stT 2) (tr2 C) := by
  refine ps_imp (ps_for PassesOwn.never rfl (pi_range1 (by rfl) R.B.range (pa_cons pe_int pa_nil)) (pg_name (i := 6) scTR.nd rfl (Or.inl rfl))
    (pss_cons (tbd0 R hr hk) (pss_cons (tbd1 R hr hk) (pss_cons (tbd2 R hr hk) (pss_cons (tbd3 R hG hr hk) (pss_cons (tbd4 R hr hk) (pss_cons (tbd5 R hG hr hk) (pss_cons tbd6 (pss_cons (tbd7 R hr hk) (pss_one (tbd8 R hG hr hk))))))))))) ?_
  rintro D σ H ⟨a, p, l, M, u1, u2, u3, v1, v2, v3, ps, qs, rs, own, o3, x, y, c, rfl, ti, ha, C1, hc, q⟩
  refine ⟨6, rfl, by decide, by decide, ?_⟩
  refine for_range (fun m σ' H' => ∃ (x' c' : Int) (o6 o7 o8 o9 o10 o11 : Option V), σ' = StT a p l M o3 o6 o7 o8 o9 o10 o11 ∧ H' a = some (crl x' y c') ∧ Cr x' y c' ∧ c' ≤ c + 20 * (m : Int) ∧ Grw a H H') ⟨x, c, _, _, _, _, _, _, rfl, ha, C1, by omega, fun b o _ e => e⟩ (fun m σ' H1 hm hP => ?_) (fun σ' H' hP => ?_)
  · obtain ⟨x1, c1, o6, o7, o8, o9, o10, o11, rfl, ha1, C2, e1, g1⟩ := hP
    have hm6 : m < 6 := hm
    have ti1 := ti.grow ha g1
    refine ⟨a, p, l, M, u1, u2, u3, v1, v2, v3, ps, qs, rs, own, o3, _, o7, o8, o9, o10, o11, x1, y, c1, rfl, ti1, ha1, C2, by omega, fun v d n x2 c2 H2 sv wd ig ti2 ha2 C3 e2 g2 => ?_⟩
    refine ⟨a, p, l, M, u1, u2, u3, v1, v2, v3, ps, qs, rs, own, o3, _, _, o9, o10, o11, v, d, rfl, ti2, sv, fun L1 H3 w3 e3 => ?_⟩
    refine ⟨a, p, l, M, u1, u2, u3, v1, v2, v3, ps, qs, rs, own, o3, _, _, _, o10, o11, v, d, rfl, ti2.same w3, Shw.same sv w3, fun L2' H4 w4 e4 => ?_⟩
    refine ⟨a, p, l, M, L1, L2', o3, _, _, _, o11, _, _, rfl, w4 _ _ e3, e4, ?_⟩
    have w34 := w3.trans w4
    refine ⟨a, p, l, M, u1, u2, u3, v1, v2, v3, ps, qs, rs, own, o3, _, _, _, _, o11, v, d, rfl, ti2.same w34, Shw.same sv w34, fun L5 H5 w5 e5 => ?_⟩
    have w35 := w34.trans w5
    refine ⟨a, p, l, M, L5, u1, u2, u3, v1, v2, v3, ps, qs, rs, own, o3, _, _, _, o11, v, d, rfl, ti2.same w35, Shw.same sv w35, e5, fun H6 w6 => ?_⟩
    have w36 := w35.trans w6
    refine ⟨a, p, l, M, o3, _, _, _, _, _, _, rfl, ?_⟩
    refine ⟨a, p, l, M, L5, ps, qs, rs, o3, _, _, v, d, n, rfl, Shw.same sv w36, w6 _ _ e5, fun r H7 w7 du => ?_⟩
    have w37 := w36.trans w7
    refine ⟨a, p, l, M, u1, u2, u3, ps, qs, rs, o3, _, _, _, v, r, d, n, rfl, ti2.Fr.same w37, Shw.same sv w37, wd, ig, du, fun H8 w8 => ?_⟩
    have w38 := w37.trans w8
    exact ⟨x2, c2, _, _, _, _, _, _, rfl, w38 _ _ ha2, C3, by omega, g1.trans (g2.trans (Grw.of w38))⟩
  · obtain ⟨x1, c1, o6, o7, o8, o9, o10, o11, rfl, ha1, C2, e1, g1⟩ := hP
    exact q x1 c1 H' _ ha1 C2 (by have h6 : Int.toNat 6 = 6 := rfl; rw [h6] at e1; omega) g1
theorem tr_3 : PS (TX P w K mg base f cdv A outer s0 H0 E).nox (stT 3) (fun D σ H => D.rt (.bl true) H) := ps_imp (ps_ret pe_bl) fun D σ H q => q
theorem ok_tr {fd : FuncData} (F : Fun K "_law_terms_right" "_law_terms_right" sTR f fd) (R : TF P w K mg base C T0 T1) : RunG P w K mg base 9 f fd ["_law_creel_here", "_law_frame_here", "_law_parts_here"] (spTR C) := by
  refine K02.Fun.okG F scTR (fun cdv A outer s H vs Q E hG hr h => ?_)
  refine ⟨_, (pss_cons (tr_0 R hr (by omega)) (pss_cons (tr_1 R hr (by omega)) (pss_cons (tr_2 R hG hr (by omega)) (pss_one tr_3))) : PSs (TX P w K mg base f cdv A outer s H E).nox (defBody sTR) _), ?_⟩
  obtain ⟨a, p, l, u1, u2, u3, v1, v2, v3, ps, qs, rs, x, y, c, rfl, Fr, pq, ha, C1, hc, q⟩ := h
  refine ⟨a, p, l, v1, v2, v3, ps, qs, rs, rfl, pq, fun N H1 w1 nN hN => ?_⟩
  have Na : N ≠ a := (ne_of_none ha nN).symm
  refine ⟨a, p, l, N, v1, v2, v3, ps, qs, rs, x, y, c, rfl, w1 _ _ ha, C1, by omega, hN, Na, fun M own x2 c2 H2 ok gds tw tm ha2 C2 e2 g2 => ?_⟩
  have g02 : Grw a H H2 := (Grw.of w1).trans g2
  refine ⟨a, p, l, M, u1, u2, u3, v1, v2, v3, ps, qs, rs, own, _, x2, y, c2, rfl, ⟨Fr.grow ha g02, pq.grow ha g02, tm, ok, gds, tw⟩, ha2, C2, by omega, fun x3 c3 H3 σ' ha3 C3 e3 g3 => ?_⟩
  exact q x3 c3 H3 ha3 C3 (by omega) (g02.trans g3)
end
end K02

set_option autoImplicit false
set_option maxRecDepth 100000
set_option maxHeartbeats 4000000
/-! xs == ys, lists of two lengths -/
namespace KX
open PySem PySem.Spec PyProof.Rows L2
def rEqLen : R2 := fun x y H Q => ∃ (a b : Addr) (xs ys : List V), x = .ref a ∧ y = .ref b ∧ H a = some (.lst xs) ∧ H b = some (.lst ys) ∧ xs.length ≠ ys.length ∧ Q (.bl false) H
theorem op_eqLen {X : Cx} (hu : X.A.units < cLine) : OpR X (compareOp .Eq) rEqLen := by
  intro pins s σ H x y v u Q I rx ry h
  obtain ⟨a, b, xs, ys, rfl, rfl, ha, hb, n, q⟩ := h
  cases rx
  cases ry
  obtain ⟨_, its, n1, r1, l1, e1⟩ := I.lstM ha
  obtain ⟨_, its2, n2, r2, l2, e2⟩ := I.lstM hb
  exact PySem.SeqAt.eq_list_lengthsAt ⟨_, e1, rfl, n1, rfl⟩ ⟨_, e2, rfl, n2, rfl⟩ (by rw [List.size_toArray, List.size_toArray, ← l1, ← l2]; simpa using n) hu ⟨.bl false, H, I, rfl, q⟩
end KX

set_option autoImplicit false
set_option maxRecDepth 100000
set_option maxHeartbeats 4000000
/-! list(zip(xs, ys)) of two lists of one length -/
namespace KX
open PySem PySem.Spec PyProof.Rows L2
theorem zip_no_len : typeLookup (.type "zip") "__len__" = pure none := by rw [typeLookup_type, builtinLookup_eq_fast]; kernel_rfl
theorem zip_no_hint : typeLookup (.type "zip") "__length_hint__" = pure none := by rw [typeLookup_type, builtinLookup_eq_fast]; kernel_rfl
section
variable {X : Cx} {pins : List (Addr × Obj)} {σ : L2.St} {A : Around} {R : Result → Shared → Prop}
/-- the pairs so far -/
def PairsAt (H : Hp) (xs ys : List V) (ps : List Addr) : Prop := ∀ (j : Nat) (p : Addr), ps[j]? = some p → ∃ x y, xs[j]? = some x ∧ ys[j]? = some y ∧ H p = some (.tup [x, y])
/-- where the zip stands: nothing is out, or the last tuple -/
def ZState (H : Hp) (h : Heap) (z TI TO : Addr) : Prop := (IsZip h z TI TO .none ∧ ∃ x y, IsPair h TO x y) ∨ ∃ (T : Addr) (f : Bool) (w : List V), IsZipHeld h z TI TO T f ∧ H T = some (.tup w)
structure ZInv (X : Cx) (pins : List (Addr × Obj)) (σ : L2.St) (H : Hp) (s : Shared) (z TI TO i1 i2 a b S : Addr) (xs ys : List V) (ps : List Addr) (i : Nat) : Prop where
  I : Inv X pins σ H s
  fp : ∀ c ∈ [z, TI, TO, i1, i2], FpOk X pins H c
  hS : H S = some (.lst (ps.map V.ref))
  zs : ZState H s.heap z TI TO
  hTI : IsPair s.heap TI (.ref i1) (.ref i2)
  h1 : s.heap.IsListIter i1 a i
  h2 : s.heap.IsListIter i2 b i
  qx : SqL X.K H a xs
  qy : SqL X.K H b ys
  ln : ps.length = i
  pr : PairsAt H xs ys ps
  lt : ∀ c ∈ [z, TI, TO, i1, i2], c < s.heap.objs.size
theorem FpOk.upd {H : Hp} {c T : Addr} {o : HO} (f : FpOk X pins H c) (n : c ≠ T) : FpOk X pins (upd H T o) c := ⟨by rw [upd_ne n]; exact f.1, f.2⟩
theorem sql_upd {K : PySem.W.Frag} {H : Hp} {a S : Addr} {xs : List V} {o : HO} (h : SqL K H a xs) (n : a ≠ S) : SqL K (L2.upd H S o) a xs :=
  h.elim (fun h => .inl (h.elim (fun h => .inl (by rw [upd_ne n]; exact h)) fun ⟨o', h⟩ => .inr ⟨o', by rw [upd_ne n]; exact h⟩)) .inr
theorem zip_loop {z TI TO i1 i2 a b S : Addr} {xs ys : List V} (hh : A.handled = none) (D : ZipApart z TI TO i1 i2 a b) (lxy : xs.length = ys.length) (few : xs.length ≤ 1000) (aS : a ≠ S) (bS : b ≠ S) (res : Value) :
    ∀ (k i : Nat) (H : Hp) (s : Shared) (ps : List Addr), xs.length - i = k → i ≤ xs.length → ZInv X pins σ H s z TI TO i1 i2 a b S xs ys ps i →
    (∀ (H' : Hp) (s' : Shared) (ps' : List Addr), Inv X pins σ H' s' → (∀ b o, b ≠ S → H b = some o → H' b = some o) → H' S = some (.lst (ps'.map V.ref)) → ps'.length = xs.length → PairsAt H' xs ys ps' → s' = { s with heap := s'.heap, toks := s'.toks } → R (.ok (.ret res)) s') →
    codeAny (model X.prog X.w) A (.builtin "list.extend.loop" ⟨[.ref S, .ref z, res], []⟩) R s := by
  intro k
  induction k with
  | zero =>
    intro i H s ps hk hi Z hR
    have hin : i = xs.length := by omega
    obtain ⟨its, rv, p1, _⟩ := Z.I.list Z.qx
    obtain ⟨its2, rv2, p2, _⟩ := Z.I.list Z.qy
    have l1 := rv.length
    have l2 := rv2.length
    refine codeAny_builtin F.entry_extend_loop ?_
    rw [Around.under_plainId F.plain_extend_loop _]
    show wpAny _ A.in1 (pyNext (.ref z) >>= _) _ _ s
    have fin : ∀ h', (∀ c o, c ≠ z → c ≠ TO → c ≠ i1 → c ≠ i2 → s.heap.get? c = some o → h'.get? c = some o) → R (.ok (.ret res)) { s with heap := h' } := fun h' hk' => by
      have I2 : Inv X pins σ H { s with heap := h' } := Z.I.turnedL (t' := s.toks) (ch := [z, TI, TO, i1, i2]) (fun c o hb q => hk' c o (fun q' => hb (by simp [q'])) (fun q' => hb (by simp [q'])) (fun q' => hb (by simp [q'])) (fun q' => hb (by simp [q'])) q) Z.fp
      exact hR H _ ps I2 (fun _ _ _ e => e) Z.hS (by rw [Z.ln]; exact hin) Z.pr rfl
    have he : its.toArray[i]? = none ∨ its2.toArray[i]? = none := .inl (by simp; omega)
    rcases Z.zs with ⟨hz, x0, y0, hTO⟩ | ⟨T, f, u, hz, hT⟩
    · exact wpAny_bind (wpAny_pyNext_zip_end hh D hz Z.hTI hTO Z.h1 Z.h2 p1.isList p2.isList he fun h' hk' => wpAny_pure (fin h' hk'))
    · obtain ⟨oT, eT⟩ := objOk_get (Z.I.hok T _ hT)
      exact wpAny_bind (wpAny_pyNext_zip_end_held hh D hz eT Z.hTI Z.h1 Z.h2 p1.isList p2.isList he fun h' hk' => wpAny_pure (fin h' fun c o c1 c2 c3 c4 => hk' c o c1 c3 c4))
  | succ k ih =>
    intro i H s ps hk hi Z hR
    have hlt : i < xs.length := by omega
    obtain ⟨x, hx⟩ : ∃ x, xs[i]? = some x := ⟨_, List.getElem?_eq_getElem hlt⟩
    obtain ⟨y, hy⟩ : ∃ y, ys[i]? = some y := ⟨_, List.getElem?_eq_getElem (by omega)⟩
    obtain ⟨its, rv, p1, _⟩ := Z.I.list Z.qx
    obtain ⟨its2, rv2, p2, _⟩ := Z.I.list Z.qy
    obtain ⟨u, hu, ru⟩ := rv.get hx
    obtain ⟨u2, hu2, ru2⟩ := rv2.get hy
    refine codeAny_builtin F.entry_extend_loop ?_
    rw [Around.under_plainId F.plain_extend_loop _]
    show wpAny _ A.in1 (pyNext (.ref z) >>= _) _ _ s
    have fpn : ∀ c ∈ [z, TI, TO, i1, i2], c ≠ S := fun c hc e => by
      have := (Z.fp c hc).1
      rw [e, Z.hS] at this
      cases this
    have nT := Z.I.hok.fresh (Nat.le_refl s.heap.objs.size)
    have ST : S ≠ s.heap.objs.size := fun e => by
      have := Z.hS
      rw [e, nT] at this
      cases this
    have after : ∀ (h' : Heap) (f' : Bool) (T0 : Addr) (w0 : List V), IsZipHeld h' z TI TO T0 f' → (L2.upd H s.heap.objs.size (.tup [x, y])) T0 = some (.tup w0) → h'.IsListIter i1 a (i + 1) → h'.IsListIter i2 b (i + 1) → IsPair h' s.heap.objs.size u u2 → h'.objs.size = s.heap.objs.size + 1 →
        (∀ c o, c ≠ z → c ≠ TO → c ≠ i1 → c ≠ i2 → s.heap.get? c = some o → h'.get? c = some o) →
        wpAny (model X.prog X.w) A.in1 (do updateSeq S (·.push (.ref s.heap.objs.size)); again (.builtin "list.extend.loop" ⟨[.ref S, .ref z, res], []⟩))
          (fun fin s' => match fin with | .done f => R (.ok f) s' | .again c' => c'.quiet = true ∧ codeAny (model X.prog X.w) A c' R s') (fun e s' => R (.error e) s') { s with heap := h' } := fun h' f' T0 w0 hz' hT0 h1' h2' hp hsz hk' => by
      have new : ObjOk X.prog X.w (L2.upd H s.heap.objs.size (.tup [x, y])) h' s.heap.objs.size (.tup [x, y]) :=
        ⟨by rw [sizeLine_eq]; show 2 ≤ _; decide, [u, u2], .cons ru (.cons ru2 .nil), ⟨_, hp, rfl, _, rfl⟩⟩
      have I1 : Inv X pins σ (L2.upd H s.heap.objs.size (.tup [x, y])) { s with heap := h' } :=
        Z.I.turnedNew (t' := s.toks) (ch := [z, TI, TO, i1, i2]) (fun c o hb q => hk' c o (fun q' => hb (by simp [q'])) (fun q' => hb (by simp [q'])) (fun q' => hb (by simp [q'])) (fun q' => hb (by simp [q'])) q) Z.fp (Nat.le_refl _) new
      have hS1 : (L2.upd H s.heap.objs.size (.tup [x, y])) S = some (.lst (ps.map V.ref)) := by rw [upd_ne ST]; exact Z.hS
      obtain ⟨_, itsS, nS, rS, _, eS⟩ := I1.lstM hS1
      have lS := rS.length
      rw [List.length_map, Z.ln] at lS
      have I2 := I1.lset (its' := itsS ++ [.ref s.heap.objs.size]) (ys := (ps ++ [s.heap.objs.size]).map V.ref) (f := (·.push (.ref s.heap.objs.size))) (t' := s.toks) hS1 eS (by simp) (by rw [List.map_append]; exact rS.append (.cons rfl .nil)) (by rw [List.length_map, List.length_append, Z.ln, sizeLine_eq]; show i + 1 ≤ _; omega)
      refine wpAny_bind ?_
      refine wpAny_updateSeq eS rfl (wpAny_pure ⟨plainId_quiet F.plain_extend_loop _, ?_⟩) (by rw [List.size_toArray, ← lS, sizeLine_eq]; omega) (by show (itsS.toArray.push _).size ≤ sizeLine + 1; rw [Array.size_push, List.size_toArray, ← lS, sizeLine_eq]; omega)
      have up : ∀ c o, c ≠ S → h'.get? c = some o → (h'.update S (Obj.mapSeq (·.push (.ref s.heap.objs.size)))).get? c = some o := fun c o n e => (Heap.get?_update_other h' _ (Ne.symm n)).trans e
      have keepH : ∀ c o, c ≠ S → H c = some o → (L2.upd (L2.upd H s.heap.objs.size (.tup [x, y])) S (.lst ((ps ++ [s.heap.objs.size]).map V.ref))) c = some o := fun c o n e => by
        rw [upd_ne n, upd_ne (fun q => by rw [q, nT] at e; cases e)]
        exact e
      refine ih (i + 1) _ _ (ps ++ [s.heap.objs.size]) (by omega) hlt ⟨I2, fun c hc => ?_, upd_same, .inr ⟨T0, f', w0, up _ _ (fpn z (by simp)) hz', by rw [upd_ne (fun e => by rw [e, hS1] at hT0; cases hT0)]; exact hT0⟩, up _ _ (fpn TI (by simp)) (hk' _ _ D.TIz D.TITO D.TIi1 D.TIi2 Z.hTI), ?_, ?_, ?_, ?_, by rw [List.length_append, Z.ln]; rfl, ?_, fun c hc => ?_⟩ ?_
      · refine FpOk.upd (FpOk.upd (Z.fp c hc) fun e => ?_) (fpn c hc)
        have := Z.lt c hc
        rw [e] at this
        exact Nat.lt_irrefl _ this
      · exact h1'.at fun o q => up _ _ (fpn i1 (by simp)) q
      · exact h2'.at fun o q => up _ _ (fpn i2 (by simp)) q
      · refine sql_upd (sql_upd Z.qx fun e => ?_) aS
        have := p1.lt
        rw [e] at this
        exact Nat.lt_irrefl _ this
      · refine sql_upd (sql_upd Z.qy fun e => ?_) bS
        have := p2.lt
        rw [e] at this
        exact Nat.lt_irrefl _ this
      · intro j p hj
        rw [List.getElem?_append] at hj
        split at hj
        · obtain ⟨x', y', e1, e2, e3⟩ := Z.pr j p hj
          refine ⟨x', y', e1, e2, keepH p _ (fun e => ?_) e3⟩
          rw [e, Z.hS] at e3
          cases e3
        · rename_i hlen
          have hj' : j = i ∧ p = s.heap.objs.size := by
            rw [Z.ln] at hlen hj
            obtain ⟨h3, h4⟩ := List.getElem?_eq_some_iff.mp hj
            rw [List.length_singleton] at h3
            have : j - i = 0 := by omega
            simp only [this, List.getElem_cons_zero] at h4
            exact ⟨by omega, h4.symm⟩
          obtain ⟨rfl, rfl⟩ := hj'
          exact ⟨x, y, hx, hy, by rw [upd_ne (Ne.symm ST)]; exact upd_same⟩
      · have := Z.lt c hc
        show c < (h'.update S _).objs.size
        rw [Heap.size_update, hsz]
        exact Nat.lt_succ_of_lt this
      · intro H' s' ps' I' kp hS' l' pr' es
        exact hR H' s' ps' I' (fun c o n e => kp c o n (keepH c o n e)) hS' l' pr' es
    have hu' : its.toArray[i]? = some u := by simpa using hu
    have hu2' : its2.toArray[i]? = some u2 := by simpa using hu2
    rcases Z.zs with ⟨hz, x0, y0, hTO⟩ | ⟨T, f, u0, hz, hT⟩
    · exact wpAny_bind (wpAny_pyNext_zip_item D hz Z.hTI hTO Z.h1 Z.h2 p1.isList p2.isList hu' hu2' fun h' a1 a2 a3 a4 a5 a6 a7 => after h' false _ _ a1 upd_same a3 a4 a5 a6 a7)
    · obtain ⟨oT, eT⟩ := objOk_get (Z.I.hok T _ hT)
      exact wpAny_bind (wpAny_pyNext_zip_item_held D hz eT Z.hTI Z.h1 Z.h2 p1.isList p2.isList hu' hu2' fun h' a1 a3 a4 a5 a6 a7 => after h' true T u0 a1 (by rw [upd_ne (fun q => by rw [q, nT] at hT; cases hT)]; exact hT) a3 a4 a5 a6 fun c o c1 c2 c3 c4 => a7 c o c1 c3 c4)

theorem call_list_zip {z TI TO i1 i2 a b : Addr} {xs ys : List V} {H : Hp} {s : Shared} {Q : Value → Shared → Prop} {E : Value → Shared → Prop} (hh : A.handled = none) (D : ZipApart z TI TO i1 i2 a b) (lxy : xs.length = ys.length) (few : xs.length ≤ 1000)
    (I : Inv X pins σ H s) (fp : ∀ c ∈ [z, TI, TO, i1, i2], FpOk X pins H c) (lt : ∀ c ∈ [z, TI, TO, i1, i2], c < s.heap.objs.size) (hz : IsZip s.heap z TI TO .none) (hTO : ∃ x y, IsPair s.heap TO x y) (hTI : IsPair s.heap TI (.ref i1) (.ref i2))
    (h1 : s.heap.IsListIter i1 a 0) (h2 : s.heap.IsListIter i2 b 0) (qx : SqL X.K H a xs) (qy : SqL X.K H b ys)
    (q : ∀ (S : Addr) (H' : Hp) (s' : Shared) (ps : List Addr), Inv X pins σ H' s' → Same H H' → H S = none → H' S = some (.lst (ps.map V.ref)) → ps.length = xs.length → PairsAt H' xs ys ps → Q (.ref S) s') :
    wpAny (model X.prog X.w) A (call (.type "list") [.ref z]) Q E s := by
  refine callType_codes (Q₁ := fun obj s₁ => obj = .ref s.heap.objs.size ∧ s₁ = { s with heap := s.heap.push { cls := .type "list", data := .seq #[] } }) F.called_list (F.typeCall_list_1 _) F.entry_list_init
    (code_list_new _ ⟨rfl, rfl⟩) fun obj s₁ hs₁ => ?_
  obtain ⟨rfl, rfl⟩ := hs₁
  have nS := I.fresh
  have I1 : Inv X pins σ (L2.upd H s.heap.objs.size (.lst [])) { s with heap := s.heap.push { cls := .type "list", data := .seq #[] } } := I.lnew (its := []) (ys := []) (t' := s.toks) .nil (by rw [sizeLine_eq]; decide)
  have hS : (s.heap.push { cls := .type "list", data := .seq #[] }).get? s.heap.objs.size = some { cls := .type "list", data := .seq #[] } := Heap.get?_push_size _ rfl
  have hH1 : (L2.upd H s.heap.objs.size (.lst [])) s.heap.objs.size = some (.lst []) := upd_same
  refine ⟨⟨_, hS, rfl⟩, F.args_list_init_2 _ _, ?_⟩
  have obs : ∀ c ∈ [z, TI, TO, i1, i2], c ≠ s.heap.objs.size := fun c hc e => by
    have := lt c hc
    rw [e] at this
    exact Nat.lt_irrefl _ this
  have old : ∀ c o, s.heap.get? c = some o → (s.heap.push { cls := .type "list", data := .seq #[] }).get? c = some o := fun c o e => Heap.get?_push_of_some _ e
  show wpAny _ _ (do let old ← Builtin.List.listItems (.ref s.heap.objs.size); Builtin.List.listUpdate (.ref s.heap.objs.size) (fun _ => #[]); letGo old.toList.reverse; Builtin.List.listExtendWith (.ref s.heap.objs.size) (.ref z) .none) _ _ _
  refine wpAny_bind ?_
  unfold Builtin.List.listItems
  refine wpAny_bind (wpAny_seqItems hS rfl (wpAny_pure ?_))
  show wpAny _ _ (updateSeq s.heap.objs.size (fun _ => #[]) >>= fun _ => letGo (#[] : Array Value).toList.reverse >>= fun _ => Builtin.List.listExtendWith (.ref s.heap.objs.size) (.ref z) .none) _ _ _
  refine wpAny_bind (wpAny_updateSeq hS rfl ?_)
  have I2 := I1.lset (its := []) (its' := []) (ys := []) (f := fun _ => (#[] : Array Value)) (t' := s.toks) hH1 hS rfl .nil (by rw [sizeLine_eq]; decide)
  have hS₂ := Heap.get?_update_self (Obj.mapSeq (fun _ => (#[] : Array Value))) hS rfl
  have old2 : ∀ c o, c ≠ s.heap.objs.size → s.heap.get? c = some o → ((s.heap.push { cls := .type "list", data := .seq #[] }).update s.heap.objs.size (Obj.mapSeq (fun _ => (#[] : Array Value)))).get? c = some o :=
    fun c o n e => (Heap.get?_update_other _ _ (Ne.symm n)).trans (old c o e)
  refine wpAny_bind (wpAny_letGo ?_)
  have hz2 := old2 _ _ (obs z (by simp)) hz
  unfold Builtin.List.listExtendWith
  refine wpAny_bind (wpAny_typeOf (T := "zip") ⟨_, hz2, rfl⟩ ?_)
  have e1 : Builtin.List.listSameRef (.ref s.heap.objs.size) (.ref z) = false := by
    simp [Builtin.List.listSameRef, (obs z (by simp)).symm]
  have e2 : (Value.type "zip" == Value.type "list") = false := by decide
  have e3 : (Value.type "zip" == Value.type "tuple") = false := by decide
  simp only [e1, e2, e3, Bool.or_false, Bool.false_eq_true, if_false]
  refine wpAny_bind (wpAny_pyIter_zip hz2 ?_)
  refine wpAny_bind (wpAny_holding ?_)
  unfold Builtin.List.listLengthHint
  refine wpAny_bind (wpAny_specialOf (T := "zip") ⟨_, hz2, rfl⟩ zip_no_len ?_)
  show wpAny _ _ (specialOf (Value.ref z) (Str.ofString "__length_hint__") >>= _) _ _ _
  refine wpAny_bind (wpAny_specialOf (T := "zip") ⟨_, hz2, rfl⟩ zip_no_hint ?_)
  refine wpAny_pure ?_
  show wpAny _ _ (rule "list.extend.makes-room" >>= fun _ => Builtin.List.listTouch (.ref s.heap.objs.size) >>= fun _ =>
    again (.builtin "list.extend.loop" ⟨[.ref s.heap.objs.size, .ref z, .none], []⟩)) _ _ _
  refine wpAny_bind (wpAny_rule ?_)
  refine wpAny_bind ?_
  show wpAny _ _ (updateSeq s.heap.objs.size (·.push .none) >>= fun _ => updateSeq s.heap.objs.size (·.pop)) _ _ _
  refine wpAny_bind (wpAny_updateSeq hS₂ rfl ?_)
  have hH2 : (L2.upd (L2.upd H s.heap.objs.size (.lst [])) s.heap.objs.size (.lst [])) s.heap.objs.size = some (.lst []) := upd_same
  have I3 := I2.lset (its := []) (its' := [.none]) (ys := [.non]) (f := (·.push Value.none)) (t' := s.toks) hH2 hS₂ rfl (.cons rfl .nil) (by rw [sizeLine_eq]; show 1 ≤ _; decide)
  have hS₃ := Heap.get?_update_self (Obj.mapSeq (·.push Value.none)) hS₂ rfl
  refine wpAny_updateSeq hS₃ rfl ?_
  have I4 := I3.lset (its := [.none]) (its' := []) (ys := []) (f := (·.pop)) (t' := s.toks) upd_same hS₃ rfl .nil (by rw [sizeLine_eq]; decide)
  have up4 : ∀ c o, c ≠ s.heap.objs.size → s.heap.get? c = some o → ((((s.heap.push { cls := .type "list", data := .seq #[] }).update s.heap.objs.size (Obj.mapSeq (fun _ => (#[] : Array Value)))).update s.heap.objs.size (Obj.mapSeq (·.push Value.none))).update s.heap.objs.size (Obj.mapSeq (·.pop))).get? c = some o :=
    fun c o n e => (Heap.get?_update_other _ _ (Ne.symm n)).trans ((Heap.get?_update_other _ _ (Ne.symm n)).trans (old2 c o n e))
  have eu : (L2.upd (L2.upd (L2.upd (L2.upd H s.heap.objs.size (.lst [])) s.heap.objs.size (.lst [])) s.heap.objs.size (.lst [.non])) s.heap.objs.size (.lst [])) = L2.upd H s.heap.objs.size (.lst []) := by
    rw [upd_upd, upd_upd, upd_upd]
  rw [eu] at I4
  have aS : a ≠ s.heap.objs.size := fun e => by
    obtain ⟨_, _, p1, _⟩ := I.list qx
    have := p1.lt
    rw [e] at this
    exact Nat.lt_irrefl _ this
  have bS : b ≠ s.heap.objs.size := fun e => by
    obtain ⟨_, _, p1, _⟩ := I.list qy
    have := p1.lt
    rw [e] at this
    exact Nat.lt_irrefl _ this
  obtain ⟨x0, y0, hTO⟩ := hTO
  refine wpAny_pure ⟨plainId_quiet F.plain_extend_loop _, zip_loop (A := A.in1) hh D lxy few aS bS .none xs.length 0 _ _ [] rfl (Nat.zero_le _) ⟨I4, fun c hc => FpOk.upd (fp c hc) (obs c hc), upd_same, .inl ⟨up4 _ _ (obs z (by simp)) hz, x0, y0, up4 _ _ (obs TO (by simp)) hTO⟩, up4 _ _ (obs TI (by simp)) hTI,
    h1.at fun o e => up4 _ _ (obs i1 (by simp)) e, h2.at fun o e => up4 _ _ (obs i2 (by simp)) e, sql_upd qx aS, sql_upd qy bS, rfl, (fun j p hj => by simp at hj), fun c hc => ?_⟩ fun H' s' ps' I' kp hS' l' pr' es => ⟨rfl, ?_⟩⟩
  · show c < ((((s.heap.push _).update _ _).update _ _).update _ _).objs.size
    rw [Heap.size_update, Heap.size_update, Heap.size_update, Heap.size_push]
    exact Nat.lt_succ_of_lt (lt c hc)
  · refine q s.heap.objs.size H' s' ps' I' (fun c o e => ?_) nS hS' l' pr'
    have n : c ≠ s.heap.objs.size := fun e2 => by rw [e2, nS] at e; cases e
    exact kp c o n (by rw [upd_ne n]; exact e)
end
def tListZip (K : PySem.W.Frag) (t : TA) : TE := fun σ H Q => t σ H fun vs H1 => ∃ a b xs ys, vs = [.ref a, .ref b] ∧ SqL K H1 a xs ∧ SqL K H1 b ys ∧ xs.length = ys.length ∧ xs.length ≤ 1000 ∧
  ∀ (S : Addr) (H' : Hp) (ps : List Addr), Same H1 H' → H1 S = none → H' S = some (.lst (ps.map V.ref)) → ps.length = xs.length → PairsAt H' xs ys ps → Q (.ref S) H'
/-- list(zip(e, e2)) -/
theorem pe_listZip {X : Cx} {e e2 : Expr} {t : TA} {p p2 pos pos2 : Pos} (hc : X.calm = true) (hg : Gl X "list") (hm : X.mg "list" = none) (hg2 : Gl X "zip") (hm2 : X.mg "zip" = none) (ha : PA X [e, e2] t)
    (hs : starEach [e, e2] X.env = (false, eval e X.env) :: starEach [e2] X.env := by rfl) (hpl : (backTo pos2 (starEach [e2] X.env)).any (·.1) = false := by rfl) :
    PE X (.Call (.Name "list" p) [.Call (.Name "zip" p2) [e, e2] [] pos2] [] pos) (tListZip X.K t) := by
  refine ⟨fun pins s σ H Q I h => ?_⟩
  refine Call_ (ld_blt I hg hm PyProof.Rows.boot_list (PyProof.Rows.callWith_type1 (Calls.spliced_cons ?_) (by rfl) (by rfl)))
  refine Call_ (ld_blt I hg2 hm2 PyProof.Rows.boot_zip (PyProof.Rows.callWith_type1 (thn (ha.run pos2 pins s σ H _ I h) fun us s1 ⟨vs, H1, I1, r1, q1⟩ => ?_) hs hpl))
  obtain ⟨a, b, xs, ys, ex, hqx, hqy, lxy, few, q⟩ := q1
  subst ex
  cases r1 with
  | cons r rr =>
    cases rr with
    | cons r' rr =>
      cases rr
      cases r
      cases r'
      obtain ⟨its, rv, p1, _⟩ := I1.list hqx
      obtain ⟨its2, rv2, p2, _⟩ := I1.list hqy
      have la : a < s1.heap.objs.size := p1.lt
      have lb : b < s1.heap.objs.size := p2.lt
      refine call_zip_2 p1.isList p2.isList fun h' hz hTI hTO h1 h2 hsz hk => Calls.spliced_nil ?_
      have I2 : Inv X pins σ H1 { s1 with heap := h' } := I1.kept (t' := s1.toks) hk
      refine call_list_zip (I1.ok.hd hc) (PySem.W.ktu_apart s1.heap.objs.size a b la lb) lxy few I2 (fun c hcm => ?_) (fun c hcm => ?_) hz ⟨_, _, hTO⟩ hTI h1 h2 hqx hqy (fun S H' s' ps I' sm nS hS l pr => ⟨.ref S, H', I', rfl, q S H' ps sm nS hS l pr⟩)
      · have e' : c = s1.heap.objs.size + 4 ∨ c = s1.heap.objs.size + 2 ∨ c = s1.heap.objs.size + 3 ∨ c = s1.heap.objs.size ∨ c = s1.heap.objs.size + 1 := by simpa using hcm
        have hle : s1.heap.objs.size ≤ c := by
          rcases e' with z | z | z | z | z
          · rw [z]; exact Nat.le_add_right _ _
          · rw [z]; exact Nat.le_add_right _ _
          · rw [z]; exact Nat.le_add_right _ _
          · rw [z]; exact Nat.le_refl _
          · rw [z]; exact Nat.le_add_right _ _
        exact I1.fpOk hle (I1.hok.fresh hle)
      · have e' : c = s1.heap.objs.size + 4 ∨ c = s1.heap.objs.size + 2 ∨ c = s1.heap.objs.size + 3 ∨ c = s1.heap.objs.size ∨ c = s1.heap.objs.size + 1 := by simpa using hcm
        show c < h'.objs.size
        rw [hsz]
        rcases e' with z | z | z | z | z <;> (rw [z]; first | exact Nat.add_lt_add_left (by decide) _ | exact Nat.lt_add_of_pos_right (by decide))
end KX

set_option autoImplicit false
set_option maxRecDepth 100000
set_option maxHeartbeats 4000000
/-! where an exception is handled: ends of walks over lists and tuples -/
namespace KX
open PySem PySem.Spec PyProof.Rows L2 HotX
section
variable {prog : Program} {w : World} {A : Around} {E : Value → Shared → Prop} {s : Shared}
theorem pyNext_list_end_hot {it l x1 : Addr} {i : Nat} {items : Array Value} {Q : Option Value → Shared → Prop} (hot : HotAt A x1 s.heap) (ne : x1 ≠ it)
    (hit : s.heap.IsListIter it l i) (hl : s.heap.IsList l items) (hx : items[i]? = none)
    (hQ : ∀ h', Heap.ExtBut it s.heap h' → Q none { s with heap := h' }) : wpAny (model prog w) A (pyNext (.ref it)) Q E s := by
  obtain ⟨hh, o1, vs1, h1, d1, c1⟩ := hot
  obtain ⟨o, ho, hc, hd⟩ := id hit
  obtain ⟨ol, hol, _, nl, hdl⟩ := hl
  unfold pyNext
  refine wpAny_bind (wpAny_attempt (wpAny_callSpecial?_slot (name := Str.ofString "__next__") hit.typeIs slot_listiter_next
    (wpAny_call_entry slot_listiter_next hit.typeIs entry_listiter_next ?_ (args_listiter_next _))))
  show wpAny _ _ (field (.ref it) 0 >>= _) _ _ s
  refine wpAny_bind (wpAny_field ho hd (x := .ref l) rfl ?_)
  show wpAny _ _ (if (Value.ref l == Value.none) = true then _ else _) _ _ s
  rw [if_neg (show ¬ ((Value.ref l == Value.none) = true) from Bool.false_ne_true)]
  show wpAny _ _ (field (.ref it) 1 >>= _) _ _ s
  refine wpAny_bind (wpAny_field ho hd (x := .int i 0) rfl ?_)
  show wpAny _ _ (seqItems? (.ref l) >>= _) _ _ s
  refine wpAny_bind (wpAny_seqItems hol hdl ?_)
  simp only [Int.toNat_natCast, hx]
  refine wpAny_bind (wpAny_rule (wpAny_bind (wpAny_setField ho hd (by simp) ?_)))
  show wpAny _ _ (newExc (.type "StopIteration") [] >>= _) _ _ _
  refine wpAny_bind ?_
  simp only [newExc, newTuple]
  refine wpAny_bind (wpAny_newObj_type ?_ (by size_fits))
  refine wpAny_bind (m := firstArgMember _ _) (wpAny_of_eq (a := Value.none) (by first | rfl | (simp only [firstArgMember]; rfl)) ?_)
  refine wpAny_newObj_type ?_ (by size_fits)
  have h1' := (Heap.get?_update_other s.heap (Obj.mapFields (·.setIfInBounds 0 Value.none)) (Ne.symm ne)).trans h1
  refine raiseNew_hot ⟨hh, o1, vs1, Heap.get?_push_of_some _ (Heap.get?_push_of_some _ h1'), d1, c1⟩ (Nat.ne_of_lt (Heap.lt_size (Heap.get?_push_of_some _ h1'))) (Heap.get?_push_size _ rfl) rfl (by first | (simp; done) | (simp; omega) | (simp only [Array.size_append]; simp; omega)) ?_
  refine wpAny_bind (wpAny_isInstance (T := "StopIteration") (b := true) ⟨_, Heap.get?_update_self _ (Heap.get?_push_size _ rfl) rfl, rfl⟩ isSubtype_stop ?_)
  refine wpAny_pure (hQ _ fun b ob hb e => ?_)
  have e' := (Heap.get?_update_other s.heap (Obj.mapFields (·.setIfInBounds 0 Value.none)) (Ne.symm hb)).trans e
  rw [Heap.get?_update_other _ _ (Nat.ne_of_gt (Heap.lt_size (Heap.get?_push_of_some _ e')))]
  exact Heap.get?_push_of_some _ (Heap.get?_push_of_some _ e')
theorem pyNext_tuple_end_hot {it t x1 : Addr} {i : Nat} {items : Array Value} {Q : Option Value → Shared → Prop} (hot : HotAt A x1 s.heap) (ne : x1 ≠ it)
    (hit : s.heap.IsTupleIter it t i) (ht : s.heap.IsTuple t items) (hx : items[i]? = none)
    (hQ : ∀ h', Heap.ExtBut it s.heap h' → Q none { s with heap := h' }) : wpAny (model prog w) A (pyNext (.ref it)) Q E s := by
  obtain ⟨hh, o1, vs1, h1, d1, c1⟩ := hot
  obtain ⟨o, ho, hc, hd⟩ := id hit
  obtain ⟨ol, hol, _, nl, hdl⟩ := ht
  unfold pyNext
  refine wpAny_bind (wpAny_attempt (wpAny_callSpecial?_slot (name := Str.ofString "__next__") hit.typeIs F.slot_tuple_iterator_next
    (wpAny_call_entry F.slot_tuple_iterator_next hit.typeIs F.entry_tuple_iterator_next ?_ (F.args_tuple_iterator_next_1 _))))
  show wpAny _ _ (field (.ref it) 0 >>= _) _ _ s
  refine wpAny_bind (wpAny_field ho hd (x := .ref t) rfl ?_)
  show wpAny _ _ (if (Value.ref t == Value.none) = true then _ else _) _ _ s
  rw [if_neg (show ¬ ((Value.ref t == Value.none) = true) from Bool.false_ne_true)]
  show wpAny _ _ (field (.ref it) 1 >>= _) _ _ s
  refine wpAny_bind (wpAny_field ho hd (x := .int i 0) rfl ?_)
  show wpAny _ _ (seqItems? (.ref t) >>= _) _ _ s
  refine wpAny_bind (wpAny_seqItems hol hdl ?_)
  simp only [Int.toNat_natCast, hx]
  refine wpAny_bind (wpAny_rule (wpAny_bind (wpAny_setField ho hd (by simp) ?_)))
  show wpAny _ _ (newExc (.type "StopIteration") [] >>= _) _ _ _
  refine wpAny_bind ?_
  simp only [newExc, newTuple]
  refine wpAny_bind (wpAny_newObj_type ?_ (by size_fits))
  refine wpAny_bind (m := firstArgMember _ _) (wpAny_of_eq (a := Value.none) (by first | rfl | (simp only [firstArgMember]; rfl)) ?_)
  refine wpAny_newObj_type ?_ (by size_fits)
  have h1' := (Heap.get?_update_other s.heap (Obj.mapFields (·.setIfInBounds 0 Value.none)) (Ne.symm ne)).trans h1
  refine raiseNew_hot ⟨hh, o1, vs1, Heap.get?_push_of_some _ (Heap.get?_push_of_some _ h1'), d1, c1⟩ (Nat.ne_of_lt (Heap.lt_size (Heap.get?_push_of_some _ h1'))) (Heap.get?_push_size _ rfl) rfl (by first | (simp; done) | (simp; omega) | (simp only [Array.size_append]; simp; omega)) ?_
  refine wpAny_bind (wpAny_isInstance (T := "StopIteration") (b := true) ⟨_, Heap.get?_update_self _ (Heap.get?_push_size _ rfl) rfl, rfl⟩ isSubtype_stop ?_)
  refine wpAny_pure (hQ _ fun b ob hb e => ?_)
  have e' := (Heap.get?_update_other s.heap (Obj.mapFields (·.setIfInBounds 0 Value.none)) (Ne.symm hb)).trans e
  rw [Heap.get?_update_other _ _ (Nat.ne_of_gt (Heap.lt_size (Heap.get?_push_of_some _ e')))]
  exact Heap.get?_push_of_some _ (Heap.get?_push_of_some _ e')
/-- a list's walk where an exception is handled -/
theorem walks_listHot {x1 : Addr} {o1 : Obj} {vs1 : Array Value} (hh : A.handled = some (.ref x1)) (d1 : o1.data = .fields vs1) (c1 : vs1[2]? = some .none) (I ax : Addr) (hne : ax ≠ I) (nx : x1 ≠ I) (items : Array Value) :
    Walks prog w A I [I, ax, x1] [I] items.size (fun i v => items[i]? = some v) (fun i h => h.IsListIter I ax i ∧ h.IsList ax items ∧ h.get? x1 = some o1) where
  sub := fun b hb => by simp at hb; simp [hb]
  frame := fun _ _ _ st hk => ⟨st.1.at fun o e => hk I (by simp) o e, st.2.1.at fun o e => hk ax (by simp) o e, hk x1 (by simp) _ st.2.2⟩
  item := fun i s Q E hi st hQ => by
    refine wpAny_pyNext_list_item st.1 st.2.1 (x := items[i]) (by simp [hi]) fun h' hit' hs' => ?_
    exact hQ _ h' s.toks (by simp [hi]) ⟨hit', st.2.1.extBut hs'.extBut hne, hs'.extBut _ _ nx st.2.2⟩ fun b o hb e => hs'.extBut b o (fun h => hb (by simp [h])) e
  done := fun s Q E st hQ => pyNext_list_end_hot ⟨hh, o1, vs1, st.2.2, d1, c1⟩ nx st.1 st.2.1 (by simp) fun h' he' => hQ h' s.toks fun b o hb e => he' b o (fun h => hb (by simp [h])) e
  self := fun _ _ _ _ st hQ => wpAny_pyIter_listiter st.1 hQ
end
end KX

set_option autoImplicit false
set_option maxRecDepth 100000
set_option maxHeartbeats 4000000
/-! where an exception is handled: sets of texts, unpacking -/
namespace KX
open PySem PySem.Spec PyProof.Rows L2 HotX L2H
section
variable {prog : Program} {w : World} {A : Around} {E : Value → Shared → Prop} {s : Shared}
theorem set_of_listH {κ : Type} [DecidableEq κ] (knd : KeyKind prog w κ) {l : Addr} {items : Array Value} {ks : List κ} {Q : Value → Shared → Prop} {x1 : Addr} (hot : HotAt A x1 s.heap) (seq : s.heap.IsList l items) (len : ks.length = items.size) (few : items.size + 1 < scanBound)
    (is : ∀ (i : Nat) (v : Value), items[i]? = some v → ∃ k, ks[i]? = some k ∧ knd.is k v = true ∧ v.scannable = true)
    (q : ∀ (h' : Heap) (tk : Nat), h'.SetOf knd s.heap.objs.size (fun y => decide (y ∈ once ks)) (once ks).length → (∀ b o, b < s.heap.objs.size → s.heap.get? b = some o → h'.get? b = some o) → Q (.ref s.heap.objs.size) { s with heap := h', toks := tk }) :
    wpAny (model prog w) A (call (.type "set") [.ref l]) Q E s := by
  obtain ⟨c0, t0, y_mro⟩ := PySem.F.called_set.mro
  have y_made := PySem.F.called_set.made
  have y_sub := PySem.F.called_set.sub
  refine wpAny_call (codeAny_of_tree ?_)
  show wpAny _ _ (callAny (.type "set") _) _ _ _
  refine wpAny_pure ⟨Code.quiet_builtin _ (by decide +kernel), codeAny_builtin PySem.F.entry_type_call ?_⟩
  rw [Around.under_plain (weight_type_call_type "set" [.ref l] []) rfl]
  have y_not := PySem.F.called_set.notType
  have y_can := PySem.F.called_set.canCreate
  have y_chk := PySem.F.typeCall_set_1 (.ref l)
  repeat (any_goals (first | assumption | wp_step))

  refine codeAny_mono (code_set_new_1 (.ref l) (E := E) (Q₁ := fun y s1 => ∃ led : Bool, y = .ref s.heap.objs.size ∧ s1 = { s with heap := s.heap.push (setNew led) }) fun led => ⟨led, rfl, rfl⟩) fun r s1 hr => ?_
  match r, hr with
  | .error e, hr => exact hr
  | .ok .next, hr => exact hr.elim
  | .ok .brk, hr => exact hr.elim
  | .ok .cont, hr => exact hr.elim
  | .ok (.ret y), hr =>
    obtain ⟨led, rfl, rfl⟩ := hr
    have hS : (s.heap.push (setNew led)).get? s.heap.objs.size = some (setNew led) := Heap.get?_push_size _ rfl
    have hT : Shared.TypeIs { s with heap := s.heap.push (setNew led) } (.ref s.heap.objs.size) "set" := ⟨_, hS, rfl⟩
    have y_look := PySem.F.called_set.init.lookup
    have y_bind := PySem.F.called_set.init.bind (.ref s.heap.objs.size)
    repeat (any_goals (first | assumption | wp_step))

    refine codeAny_mono (codeAny_call_builtin (R := wants (fun r s2 => r = .none ∧ ∃ h' tk, s2 = { s with heap := h', toks := tk } ∧ h'.SetOf knd s.heap.objs.size (fun y => decide (y ∈ once ks)) (once ks).length ∧
        (∀ b o, b < s.heap.objs.size → s.heap.get? b = some o → h'.get? b = some o)) E) PySem.F.called_set.init.plain PySem.F.entry_set_init (check_set_init_1 hT ?_)) fun r2 s2 hr2 => ?_
    · obtain ⟨ol, hol, oc, nl, od⟩ := seq
      obtain ⟨o1, o2, o3, o4⟩ := ol
      dsimp only at oc od
      subst oc od
      have there : (s.heap.push (setNew led)).get? l = some { cls := .type "list", dict := o2, data := .seq items nl, slots := o4 } := Heap.get?_push_of_some _ hol
      have y_s1 := PySem.F.sub_list_set
      have y_s2 := PySem.F.sub_list_frozenset
      have y_ne : (Value.type "list" == Value.type "dict") = false := by decide
      have seq1 : (s.heap.push (setNew led)).IsList l items := ⟨_, there, rfl, nl, rfl⟩
      unfold Builtin.«set.__init__» noKeywords Builtin.Frozenset.updateFrom
      generalize y_it : pyIter = PI
      wp_walk
      subst y_it

      refine wpAny_pyIter_list seq1 (wpAny_bind (wpAny_runValue ?_))
      have low : l < s.heap.objs.size := Heap.lt_size hol
      obtain ⟨hh, o1h, vs1h, h1h, d1h, c1h⟩ := id hot
      have hh3 : A.in1.in1.in1.handled = some (.ref x1) := hh
      have low1 : x1 < s.heap.objs.size := Heap.lt_size h1h
      have nx1 : x1 ≠ (s.heap.push (setNew led)).objs.size := by
        rw [Heap.size_push]
        exact Nat.ne_of_lt (Nat.lt_succ_of_lt low1)
      have apart : l ≠ (s.heap.push (setNew led)).objs.size := by
        rw [Heap.size_push]
        exact Nat.ne_of_lt (Nat.lt_succ_of_lt low)
      have out : s.heap.objs.size ∉ [(s.heap.push (setNew led)).objs.size, l, x1] := by
        intro z
        rw [Heap.size_push] at z
        rcases List.mem_cons.mp z with z | z
        · exact absurd z (Nat.ne_of_lt (Nat.lt_succ_self _))
        rcases List.mem_cons.mp z with z | z
        · exact absurd z.symm (Nat.ne_of_lt low)
        · exact absurd (List.mem_singleton.mp z).symm (Nat.ne_of_lt low1)
      refine fill_set (knd := knd) ((walks_listHot hh3 d1h c1h _ l apart nx1 items).toS) s.heap.objs.size out ks len few (fun i v hv => is i v hv) (items.size - 0) 0 _ (by omega) (Nat.zero_le _) ⟨⟨_, Heap.get?_push_size _ rfl, rfl, rfl⟩, (seq1.push _), Heap.get?_push_of_some _ (Heap.get?_push_of_some _ h1h)⟩ ?_ ?_
      · have got : ((s.heap.push (setNew led)).push { cls := .type "list_iterator", data := .fields #[.ref l, .int 0 0] }).get? s.heap.objs.size = some (setNew led) := Heap.get?_push_of_some _ hS
        exact SetOf_congr ((PyProof.Rows.setObjOf_fresh (knd := knd) led).setOf got (by unfold scanBound; omega)) (fun _ => rfl) rfl
      · rintro ⟨h', g', d', tk', os'⟩ mv hS2
        obtain rfl : g' = s.gens := mv.gens
        obtain rfl : d' = s.drawn := mv.drawn
        obtain rfl : os' = s.os := mv.os
        show wpAny _ _ _ _ _ _
        refine wpAny_pure ?_
        show wpAny _ _ (ret Value.none) _ _ _
        refine wpAny_pure ⟨rfl, h', tk', rfl, hS2, fun b o hb e => mv.heap b o (fun z => ?_) (Heap.get?_push_of_some _ (Heap.get?_push_of_some _ e))⟩
        simp only [List.mem_cons, List.not_mem_nil, or_false, Heap.size_push] at z
        rcases z with z | z
        · exact absurd z (Nat.ne_of_lt hb)
        · exact absurd z (Nat.ne_of_lt (Nat.lt_succ_of_lt hb))
    · match r2, hr2 with
      | .error e, hr2 => exact hr2
      | .ok .next, hr2 => exact hr2.elim
      | .ok .brk, hr2 => exact hr2.elim
      | .ok .cont, hr2 => exact hr2.elim
      | .ok (.ret r), hr2 =>
        obtain ⟨rfl, h', tk, rfl, hS2, kp⟩ := hr2
        repeat (any_goals (first | assumption | wp_step))
        exact q _ _ hS2 kp
end
def tLenWordsL (K : PySem.W.Frag) (ta : TE) : TE := fun σ H Q => ta σ H fun x H1 => ∃ (l : Addr) (zs : List Str), x = .ref l ∧ (SqL K H1 l (zs.map V.str)) ∧ zs.length ≤ 1000 ∧ Q (.int ((once zs).length : Nat)) H1
theorem pe_lenWordsH {X : Cx} {a : Expr} {ta : TE} {p p2 q pos : Pos} (hg : Gl X "len") (hm : X.mg "len" = none) (hg2 : Gl X "set") (hm2 : X.mg "set" = none) (ha : PE X a ta) (hc : HotC X)
    (na : starEach [a] X.env = (false, eval a X.env) :: starEach [] X.env := by rfl) : PE X (.Call (.Name "len" p) [.Call (.Name "set" p2) [a] [] q] [] pos) (tLenWordsL X.K ta) := by
  refine ⟨fun pins s σ H Q I h => ?_⟩
  refine Call_ (ld_blt I hg hm boot_len (PyProof.Rows.callWith_builtin1 (PyProof.Rows.args_cons ?_ rfl) rfl rfl))
  refine Call_ (ld_blt I hg2 hm2 boot_set ?_)
  refine PyProof.Rows.callWith_type1 (PyProof.Rows.args_cons (thn (ha.run pins s σ H _ I h) fun v s1 ⟨x, H1, I1, r1, q1⟩ => PyProof.Rows.args_nil ?_) na) na rfl
  obtain ⟨l, zs, rfl, hq, few, q1⟩ := q1
  obtain rfl : v = Value.ref l := r1
  have last : ∀ (h' : Heap) (tk : Nat), h'.SetOf (PySem.strKind X.prog X.w) s1.heap.objs.size (fun y => decide (y ∈ once zs)) (once zs).length → (∀ b o, b < s1.heap.objs.size → s1.heap.get? b = some o → h'.get? b = some o) →
      wpAny (model X.prog X.w) X.A (spliced (backTo pos (starEach [] X.env))) (fun vs s2 => wpAny (model X.prog X.w) X.A (call (.builtin "len") (Value.ref s1.heap.objs.size :: vs)) (EP X pins σ Q) X.xe s2) X.xe { s1 with heap := h', toks := tk } := fun h' tk y kp => by
    refine PyProof.Rows.args_nil ?_
    obtain ⟨o, es, ep, t, ho, hex, hd, _, _, _, hf, hn⟩ := y
    have I2 : Inv X pins σ H1 { s1 with heap := h', toks := tk } := I1.kept fun b o e => kp b o (Heap.lt_size e) e
    have le := once_le zs
    exact call_len_set ho hex hd hf (by rw [hn]; omega) ⟨.int (once zs).length, H1, I2.tok _, ⟨_, by rw [hn]⟩, q1⟩
  obtain ⟨x1, hot⟩ := hc.at I1
  obtain ⟨its, r, pl, hz⟩ := I1.list hq
  have ln : zs.length = its.length := by have := Paired.length r; rw [List.length_map] at this; exact this
  refine set_of_listH (PySem.strKind X.prog X.w) (ks := zs) hot pl.isList (by rw [List.size_toArray]; exact ln) (by rw [List.size_toArray]; unfold scanBound; omega) (fun i u hu => ?_) last
  obtain ⟨z, t, e1, rfl⟩ := strs_vals r i u (by rw [← List.getElem?_toArray]; exact hu)
  exact ⟨z, e1, strKind_is _ _ _ _, rfl⟩
end KX

set_option autoImplicit false
set_option maxRecDepth 100000
set_option maxHeartbeats 4000000
/-! where an exception is handled: tuples walked and unpacked, comprehensions -/
namespace KX
open PySem PySem.Spec PyProof.Rows L2 HotX L2H
/-- the handled exception stands in every state of the context, out of the iterators' way -/
def HotQ (X : Cx) : Prop := ∀ (pins : List (Addr × Obj)) (σ : L2.St) (H : Hp) (s : Shared), Inv X pins σ H s → ∃ x1, HotAt X.A x1 s.heap ∧ x1 ∉ X.ex
section
variable {prog : Program} {w : World} {A : Around} {E : Value → Shared → Prop} {s : Shared}
theorem unpackItems_tupleH {t x1 : Addr} {items : Array Value} {Q : List Value → Shared → Prop} (hot : HotAt A x1 s.heap) (ht : IsTup s.heap t items)
    (hQ : ∀ h', Heap.ExtBut s.heap.objs.size s.heap h' → Q items.toList { s with heap := h' }) : wpAny (model prog w) A (unpackItems (.ref t) items.size none) Q E s := by
  have hlt : t ≠ s.heap.objs.size := by obtain ⟨o, ho, _⟩ := ht; exact Nat.ne_of_lt (Heap.lt_size ho)
  obtain ⟨hh, o1, vs1, h1, d1, c1⟩ := hot
  have n1 : x1 ≠ s.heap.objs.size := Nat.ne_of_lt (Heap.lt_size h1)
  unfold unpackItems
  refine wpAny_bind ?_
  · unfold notIterableAtAll
    refine wpAny_bind (wpAny_specialOf ht.typeIs slot_tuple_iter.lookup ?_)
    refine wpAny_pure ?_
    simp only [Bool.false_eq_true, if_false]
    refine wpAny_bind (wpAny_holding (iter_tuple ht ?_))
    refine wpAny_bind (wpAny_holding (draw_tuple hlt items.size 0 _ _ ⟨_, Heap.get?_push_size _ rfl, rfl, rfl⟩ (ht.push _) (by omega) fun h₁ hit₁ hs₁ => ?_))
    have hall : List.take items.size (List.drop 0 items.toList) = items.toList := by
      rw [List.drop_zero]; exact List.take_of_length_le (by simp)
    rw [hall]
    rw [if_neg (by simp)]
    have ht₁ : IsTup h₁ t items := (ht.push _).extBut hs₁.extBut hlt
    refine wpAny_bind (wpAny_holding (pyNext_tuple_end_hot ⟨hh, o1, vs1, hs₁.extBut _ _ n1 (Heap.get?_push_of_some _ h1), d1, c1⟩ n1 hit₁ ht₁ (by simp) fun h₂ he₂ => ?_))
    simp only [Option.isSome_none, Bool.false_eq_true, if_false]
    refine wpAny_pure (hQ h₂ fun b o hb e => he₂ b o hb (hs₁.extBut b o hb (Heap.get?_push_of_some _ e)))
theorem unpack_tupleH {t x1 : Addr} {items : Array Value} {targets : List (Bool × (Value → Sem Unit))} {Q : Unit → Shared → Prop} (hot : HotAt A x1 s.heap) (ht : IsTup s.heap t items)
    (hn : targets.length = items.size) (hstar : targets.findIdx? (·.1) = none)
    (h : ∀ h', Heap.ExtBut s.heap.objs.size s.heap h' → wpAny (model prog w) A (assignInOrder (targets.map (·.2)) items.toList) Q E { s with heap := h' }) :
    wpAny (model prog w) A (unpack (.ref t) targets) Q E s := by
  unfold unpack
  rw [hn, hstar]
  exact wpAny_bind (wpAny_holding (unpackItems_tupleH hot ht h))
end
section
variable {X : Cx} {pos : Pos}
/-- a, b = a tuple -/
theorem pg_tupH {es : List Expr} {k : Nat} {t : TGs} {n : Nat} (hc : HotQ X) (h : PGs X es t)
    (hn : (assignEach es X.env).length = n := by rfl) (hst : (assignEach es X.env).findIdx? (·.1) = none := by rfl) : PG X (.Tuple es k pos) (gTup X.K n t) := by
  refine ⟨fun pins s σ H v u Q I r hw => ?_⟩
  obtain ⟨a, xs, e1, hq, hl, hw⟩ := hw
  subst e1
  cases r
  obtain ⟨its, rv, ht, hz⟩ := I.tuple hq
  obtain ⟨x1, hot, _⟩ := hc pins σ H s I
  rw [PyProof.Rows.assign_Tuple]
  refine wpAny_bind (wpAny_standAt (unpack_tupleH hot ht (by simp [hn, ← hl, rv.length]) hst fun h' hx => ?_))
  have I1 : Inv X pins σ H { s with heap := h' } := I.kept (t' := s.toks) fun b o e => hx b o (Nat.ne_of_lt (Heap.lt_size e)) e
  exact h.run pins _ σ H xs _ Q I1 (by simpa using rv) hw
end
theorem HotC.q {X : Cx} (c : HotC X) (hx : X.ex = []) : HotQ X := fun pins σ H s I => by
  obtain ⟨x1, h⟩ := c.at I
  exact ⟨x1, h, by rw [hx]; exact fun z => nomatch z⟩
/-- a walk whose end is told where an exception is handled -/
structure TurnQ (P : Program) (w : World) (K : PySem.W.Frag) (tg : Expr) (J : It) (fp : List Addr) (it : Addr) (tn : Nat → Heap → Prop) : Prop where
  mem : it ∈ fp
  obj : ∀ i h, tn i h → ∀ b ∈ fp, ∃ o, h.get? b = some o ∧ ∀ v, o.data ≠ .cell v
  keep : ∀ i h h', tn i h → (∀ b ∈ fp, ∀ o, h.get? b = some o → h'.get? b = some o) → tn i h'
  item : ∀ (X : Cx), X.prog = P → X.w = w → X.K = K → ∀ (i : Nat) (pins : List (Addr × Obj)) (s : Shared) (σ : L2.St) (H : Hp) (E : Value → Shared → Prop), Inv X pins σ H s → (∀ b ∈ fp, FpOk X pins H b) → tn i s.heap → J.go i H →
    wpAny (model P w) X.A (pyNext (.ref it)) (fun r s1 => ∃ u, r = some u ∧
      wpAny (model P w) X.A (letOwnedTupleGo tg (.ref it) u) (fun _ s2 => ∃ x H', Inv X pins σ H' s2 ∧ RelV x u ∧ J.yld i H x H' ∧ tn (i + 1) s2.heap ∧ ∀ b ∈ fp, H' b = none) E s1) E s
  done : ∀ (X : Cx), X.prog = P → X.w = w → X.K = K → ∀ {s : Shared}, (∃ x1, HotAt X.A x1 s.heap ∧ x1 ∉ fp) → ∀ (i : Nat) (pins : List (Addr × Obj)) (s' : Shared) (σ : L2.St) (H : Hp) (E : Value → Shared → Prop), s' = s → Inv X pins σ H s' → (∀ b ∈ fp, FpOk X pins H b) → tn i s'.heap → J.stop i H →
    wpAny (model P w) X.A (pyNext (.ref it)) (fun r s1 => r = none ∧ Inv X pins σ H s1) E s'
  self : ∀ (A : Around) (i : Nat) (s : Shared) (Q : Value → Shared → Prop) (E : Value → Shared → Prop), tn i s.heap → Q (.ref it) s → wpAny (model P w) A (pyIter (.ref it)) Q E s
theorem turn_tupQ {P : Program} {w : World} {K : PySem.W.Frag} {tg : Expr} (a it : Addr) : TurnQ P w K tg (Itt K a) [it] it (fun i h => h.IsTupleIter it a i) where
  mem := by simp
  obj := fun i h st b hb => by
    have e : b = it := by simpa using hb
    subst e
    obtain ⟨o, e, c, d⟩ := st
    exact ⟨o, e, fun v z => by rw [d] at z; cases z⟩
  keep := fun i h h' st k => st.at fun o e => k it (by simp) o e
  item := by
    intro X hP hw hK i pins s σ H E I hf st hg
    subst hP hw hK
    obtain ⟨xs, x, hq, hx⟩ := hg
    obtain ⟨its, rv, p, hz⟩ := I.tuple hq
    obtain ⟨u, hu, ru⟩ := rv.get hx
    obtain ⟨f0, f1, f2, f3, f4, f5⟩ := hf it (by simp)
    refine wpAny_pyNext_tuple_item st (show s.heap.IsTuple a its.toArray from p) (x := u) (by simpa using hu) fun h' st' sb => ?_
    have I1 : Inv X pins σ H { s with heap := h' } := I.turned (t' := s.toks) (fun b o hb e => (sb.2 b hb).trans e) f0 f1 f3 f4 f5
    obtain ⟨o, e, c, d⟩ := id st'
    exact ⟨u, rfl, go_of (s := { s with heap := h' }) e c d (by decide) ⟨x, H, I1, ru, ⟨rfl, fun ys hy => by rw [I.tuple_inj hy hq]; exact hx⟩, st', fun b hb => (hf b hb).1⟩⟩
  done := by
    intro X hP hw hK s hot i pins s' σ H E es I hf st hg
    subst hP hw hK es
    obtain ⟨x1, hot, nx⟩ := hot
    obtain ⟨xs, hq, hx⟩ := hg
    obtain ⟨its, rv, p, hz⟩ := I.tuple hq
    obtain ⟨f0, f1, f2, f3, f4, f5⟩ := hf it (by simp)
    have hl := rv.length
    exact pyNext_tuple_end_hot hot (fun e => nx (by rw [e]; simp)) st (show s'.heap.IsTuple a its.toArray from p) (by simp; omega) fun h' eb => ⟨rfl, I.turned (t' := s'.toks) (fun b o hb e => eb b o hb e) f0 f1 f3 f4 f5⟩
  self := fun _ _ _ _ _ st h => wpAny_pyIter_tupleiter st h
def PIEQ (X : Cx) (pins : List (Addr × Obj)) (σ : L2.St) (tg : Expr) (R : It → Hp → Prop) (itv : Value) (s2 : Shared) : Prop :=
  ∃ (it : Addr) (fp : List Addr) (tn : Nat → Heap → Prop) (J : It) (H' : Hp), itv = .ref it ∧ Inv X pins σ H' s2 ∧ TurnQ X.prog X.w X.K tg J fp it tn ∧ tn 0 s2.heap ∧ (∀ b ∈ fp, FpOk X pins H' b) ∧ R J H'
structure PIQ (X : Cx) (tg iter : Expr) (wi : TI) : Prop where
  run : ∀ (pins : List (Addr × Obj)) (s : Shared) (σ : L2.St) (H : Hp) (R : It → Hp → Prop), Inv X pins σ H s → wi σ H R →
    wpAny (model X.prog X.w) X.A (eval iter X.env) (fun v s1 => wpAny (model X.prog X.w) X.A (pyIter v) (PIEQ X pins σ tg R) X.xe s1) X.xe s
theorem pi_tupQ {X : Cx} {tg l : Expr} {tl : TE} (hl : PE X l tl) : PIQ X tg l (iTup X.K tl) := by
  refine ⟨fun pins s σ H R I h => ?_⟩
  refine thn (hl.run pins s σ H _ I h) fun v s1 ⟨x, H1, I1, r1, q1⟩ => ?_
  obtain ⟨a, e, ⟨xs, hq⟩, q⟩ := q1
  subst e
  cases r1
  obtain ⟨its, rv, p, hz⟩ := I1.tuple hq
  refine wpAny_pyIter_tuple (show s1.heap.IsTuple a its.toArray from p) ?_
  refine ⟨s1.heap.objs.size, [s1.heap.objs.size], _, _, H1, rfl, I1.kept (t' := s1.toks) fun b o e => Heap.get?_push_of_some _ e, turn_tupQ a _, ⟨_, Heap.get?_push_size _ rfl, rfl, rfl⟩, fun b hb => ?_, q⟩
  have e : b = s1.heap.objs.size := by simpa using hb
  subst e
  exact I1.fpOk (Nat.le_refl _) (I1.hok.fresh (Nat.le_refl _))
section
variable {X : Cx}
theorem lc_coreH {pins : List (Addr × Obj)} {s : Shared} {σ : L2.St} {H : Hp} {Q : VK} {elt tg iter : Expr} {ifs : List Expr} {scope : Scope} {own : List (Str × Nat)} {pos pos' : Pos} {wi : TI} {g : TG} {tt : TT} {te : TE} {use : Option (Value → Sem Unit)} {Qf : Value → Shared → Prop}
    (hc : HotC X) (hN : X.N.Nodup) (I : Inv X pins σ H s) (hi : PIQ X tg iter wi) (ok : BlkOk X.N X.env.scope scope own)
    (hg : ∀ (s : Shared) (H : Hp) (C : Addr) (cl : List (Str × Addr)) (fp : List Addr), HotQ (X.blk s H scope (compEnvC scope cl C X.env) fp) → PG (X.blk s H scope (compEnvC scope cl C X.env) fp) tg g) (ht : ∀ (s : Shared) (H : Hp) (C : Addr) (cl : List (Str × Addr)) (fp : List Addr), PTs (X.blk s H scope (compEnvC scope cl C X.env) fp) ifs tt)
    (he : ∀ (s : Shared) (H : Hp) (C : Addr) (cl : List (Str × Addr)) (fp : List Addr), PE (X.blk s H scope (compEnvC scope cl C X.env) fp) elt te) (hs : ∀ x, foldedSetIterable iter X.env x = pure x)
    (h : tLc wi g tt te (own.map (·.2)) σ H Q)
    (hRR : ∀ D C s' m H', Inv X pins σ H' s' → Q (.ref D) H' → s'.heap.Ns C m → FpOk X pins H' C → compPost (model X.prog X.w) X.A X.xe use Qf (.ref D) C (.ok .next) s') :
    wpAny (model X.prog X.w) X.A (comprehension (.ListComp elt [⟨tg, iter, ifs, 0⟩] scope pos) scope X.env pos' (newList []) false (eval iter X.env) use) Qf X.xe s := by
  have hfree : ∀ y ∈ scope.names, y.2 = .free → ∃ c, X.env.cells.lookup y.1 = some c := fun y hy e => by
    rcases ok.free y hy e with k | k
    · exact I.ok.has _ (.inl k)
    · exact I.ok.has _ (.inr k)
  refine wpAny_comprehension_free (use := use) rfl hs (closure_ok hfree) ok.kind (fun y hy e => by rw [ok.uniq y hy, e])
    (thn (hi.run pins s σ H _ I h) fun xv s1 hx => thn hx fun itv s2 h2 => ?_)
  obtain ⟨it, fp, tn, J, H2, e, I2, T, st2, f2, q⟩ := h2
  subst e
  refine wpAny_newObj_type (newEnv_comp ?_) (by show 0 ≤ sizeLine; decide)
  generalize hD : s2.heap.objs.size = D
  have hDn : H2 D = none := I2.hok.fresh (Nat.le_of_eq hD)
  obtain ⟨W, ⟨m0, w0⟩, turn⟩ := q D hDn
  -- the new list
  generalize hs3 : ({ s2 with heap := s2.heap.push { cls := .type "list", data := .seq ([] : List Value).toArray } } : Shared) = s3
  have I3 : Inv X pins σ (L2.upd H2 D (.lst [])) s3 := by
    rw [← hs3]
    refine I2.laid (t' := s2.toks) (fun b o e => Heap.get?_push_of_some _ e) (Nat.le_of_eq hD) ⟨Nat.zero_le _, [], 0, .nil, ?_⟩
    rw [← hD]
    exact Heap.get?_push_size _ rfl
  have h3 : s3.heap = s2.heap.push { cls := .type "list", data := .seq ([] : List Value).toArray } := by rw [← hs3]
  have sz : ∀ b ∈ fp, b < s2.heap.objs.size := fun b hb => by
    obtain ⟨o, e, _⟩ := T.obj _ _ st2 b hb
    exact Heap.lt_size e
  have f3 : ∀ b ∈ fp, FpOk X pins (L2.upd H2 D (.lst [])) b ∧ b < s3.heap.objs.size := fun b hb => by
    have hlt := sz b hb
    refine ⟨⟨?_, (f2 b hb).2⟩, by rw [h3, Heap.size_push]; exact Nat.lt_succ_of_lt hlt⟩
    rw [upd_ne (by rw [← hD]; exact Nat.ne_of_lt hlt)]
    exact (f2 b hb).1
  have st3 : tn 0 s3.heap := T.keep _ _ _ st2 fun b _ o e => by rw [h3]; exact Heap.get?_push_of_some _ e
  have I4 := block_start I3 ok hN f3
  obtain ⟨p, ⟨hpA, vsp, hpd, hpc⟩, hpn⟩ := hc
  have P3 := I3.pin p (List.mem_append_left _ hpn)
  have pfp : p.1 ∉ fp := fun hm => (f2 p.1 hm).2.2.2.2.2 p (List.mem_append_left _ hpn) rfl
  have hotQ : ∀ ce', HotQ (X.blk s3 (L2.upd H2 D (.lst [])) scope ce' fp) := fun ce' pins' σ' H' s' I' =>
    ⟨p.1, ⟨hpA, p.2, vsp, I'.base.keep p.1 p.2 P3.1 P3.2.1 (fun hm => (List.mem_cons.mp (I3.stkSub p.1 hm)).elim P3.2.2.1 P3.2.2.2.1) pfp, hpd, hpc⟩, pfp⟩
  have pg := hg s3 (L2.upd H2 D (.lst [])) s3.heap.objs.size (cellsFrom (s3.heap.objs.size + 1) scope.names (cloFrom X.env.cells scope.names [])) fp (hotQ _)
  have pt := ht s3 (L2.upd H2 D (.lst [])) s3.heap.objs.size (cellsFrom (s3.heap.objs.size + 1) scope.names (cloFrom X.env.cells scope.names [])) fp
  have pe := he s3 (L2.upd H2 D (.lst [])) s3.heap.objs.size (cellsFrom (s3.heap.objs.size + 1) scope.names (cloFrom X.env.cells scope.names [])) fp
  show codeAny _ _ (.compStart (.ListComp elt [⟨tg, iter, ifs, 0⟩] scope pos) 0 (.ref it) (.ref D) (compEnvC scope (cellsFrom (s3.heap.objs.size + 1) scope.names (cloFrom X.env.cells scope.names [])) s3.heap.objs.size X.env)) (compPost (model X.prog X.w) X.A X.xe use Qf (.ref D) s3.heap.objs.size) { s3 with heap := pushCells (s3.heap.push { cls := .type "dict", data := .dict #[] }) scope.names }
  have nfp : ∀ b ∈ fp, (L2.upd H2 D (.lst [])) b = none := fun b hb => (f3 b hb).1.1
  have hq := hotQ (compEnvC scope (cellsFrom (s3.heap.objs.size + 1) scope.names (cloFrom X.env.cells scope.names [])) s3.heap.objs.size X.env)
  clear hotQ
  generalize hce : compEnvC scope (cellsFrom (s3.heap.objs.size + 1) scope.names (cloFrom X.env.cells scope.names [])) s3.heap.objs.size X.env = ce at I4 pg pt pe hq ⊢
  have cL : ce.locals = s3.heap.objs.size := by subst hce; rfl
  generalize hH3 : L2.upd H2 D (.lst []) = H3 at I3 I4 pg pt pe w0 nfp f3 hq P3
  generalize hs4 : ({ s3 with heap := pushCells (s3.heap.push { cls := .type "dict", data := .dict #[] }) scope.names } : Shared) = s4 at I4 ⊢
  have st4 : tn 0 s4.heap := T.keep _ _ _ st3 fun b _ o e => by rw [← hs4]; exact pushCells_keeps _ _ _ _ (Heap.get?_push_of_some _ e)
  have stat : ∀ {σ' : L2.St} {H' : Hp} {s' : Shared}, Inv (X.blk s3 H3 scope ce fp) [] σ' H' s' → (∀ b ∈ fp, H' b = none) → ∀ b ∈ fp, FpOk (X.blk s3 H3 scope ce fp) [] H' b := fun {σ' H' s'} I' hn b hb =>
    ⟨hn b hb, (I'.ok.exf b hb).1, I'.ok.exfs b hb, .inl hb, fun x c e => (I'.ok.exf b hb).2 x c e, fun p hp => absurd (show p ∈ ([] : List (Addr × Obj)) ++ [] from hp) (by simp)⟩
  have loop : codeAny (model X.prog X.w) X.A (.compLoop (.ListComp elt [⟨tg, iter, ifs, 0⟩] scope pos) 0 (.ref it) (.ref D) ce) (compPost (model X.prog X.w) X.A X.xe use Qf (.ref D) s3.heap.objs.size) s4 := by
    refine compLoop_any (fun n s' => ∃ i H', Inv (X.blk s3 H3 scope ce fp) [] (wipe σ (own.map (·.2))) H' s' ∧ tn i s'.heap ∧ (∀ b ∈ fp, H' b = none) ∧ W i n H') ?_ m0 ⟨0, H3, I4, st4, nfp, w0⟩
    rintro n s5 ⟨i, H5, I5, st5, n5, w5⟩
    rcases turn i n H5 w5 with ⟨stop, qq⟩ | ⟨go, Nx, hNx, step⟩
    · have td := T.done (X.blk s3 H3 scope ce fp) rfl rfl rfl (hq [] _ H5 s5 I5) i [] s5 _ H5 (fun _ _ => False) rfl I5 (stat I5 n5) st5 stop
      refine thnF td fun r s6 ⟨hr, I6⟩ => ?_
      subst hr
      -- back in the def's context
      have I7 : Inv X pins σ H5 s6 := I3.call' (ch := fp) I6.os I6.base I6.hok I6.bare fun b hb => ⟨(f3 b hb).1.2.2.2.1, (f3 b hb).1.2.1, (f3 b hb).1.2.2.2.2.1, (f3 b hb).1.2.2.2.2.2⟩
      have nC : H5 s3.heap.objs.size = none := by
        have z : H5 ce.locals = none := I6.free
        rw [cL] at z
        exact z
      obtain ⟨m, hn, _⟩ := I6.loc
      have hn : s6.heap.Ns ce.locals m := hn
      rw [cL] at hn
      exact hRR D s3.heap.objs.size s6 m H5 I7 qq hn (I3.fpOk (Nat.le_refl _) nC)
    · have ti := T.item (X.blk s3 H3 scope ce fp) rfl rfl rfl i [] s5 _ H5 (fun _ _ => False) I5 (stat I5 n5) st5 go
      refine thnF ti fun r s6 ⟨u, hr, h6⟩ => ?_
      subst hr
      refine thnF h6 fun _ s7 ⟨x, H7, I7, r7, y7, st7, n7⟩ => ?_
      have I7' := I7.pinned (stat I7 n7) (T.obj _ _ st7)
      refine thnF (pg.run _ s7 _ H7 x u _ I7' r7 (step x H7 y7)) fun _ s8 ⟨σ8, H8, I8, hw8, q8⟩ => ?_
      refine thnF (pt.run _ s8 σ8 H8 _ I8 q8) fun b s9 ⟨H9, I9, q9⟩ => ?_
      -- the turn's end
      have fin : ∀ {s' : Shared} {H' : Hp}, Inv (X.blk s3 H3 scope ce fp) ([] ++ pinsAt fp s7.heap) σ8 H' s' → Nx H' → ∃ m, m < n ∧ ∃ i H', Inv (X.blk s3 H3 scope ce fp) [] (wipe σ (own.map (·.2))) H' s' ∧ tn i s'.heap ∧ (∀ b ∈ fp, H' b = none) ∧ W i m H' := fun {s' H'} I' nx => by
        obtain ⟨m', hm, w'⟩ := hNx H' nx
        have pin' : ∀ b ∈ fp, ∀ o, s7.heap.get? b = some o → s'.heap.get? b = some o ∧ H' b = none := fun b hb o e =>
          let z := I'.pin (b, o) (List.mem_append_right _ (List.mem_append_right _ (mem_pinsAt hb e)))
          ⟨z.1, z.2.1⟩
        have hl : (wipe σ (own.map (·.2))).length = σ8.length := by rw [← hw8, wipe_length]
        refine ⟨m', hm, i + 1, H', (I'.unpinned (pins := [])).weak hl (fun j v e => ?_), T.keep _ _ _ st7 fun b hb o e => (pin' b hb o e).1, fun b hb => ?_, w'⟩
        · rw [← hw8] at e
          exact (wipe_some e).1
        · obtain ⟨o, e, _⟩ := T.obj _ _ st7 b hb
          exact (pin' b hb o e).2
      cases b with
      | false =>
        simp only [Bool.false_eq_true, if_false] at q9 ⊢
        exact fin I9 q9
      | true =>
        simp only [if_true] at q9 ⊢
        refine thnF (pe.run _ s9 σ8 H9 _ I9 q9) fun z s10 ⟨yv, H10, I10, r10, acc, hD10, hz10, nx⟩ => ?_
        exact app_ok (X := X.blk s3 H3 scope ce fp) I10 hD10 hz10 r10 fun s11 I11 => fin I11 nx
  exact codeAny_compStart_list loop (T.self X.A 0 _ _ _ st4 loop)
theorem ps_setLcH {i : Nat} {y : Str} {py : Pos} {elt tg iter : Expr} {ifs : List Expr} {scope : Scope} {own : List (Str × Nat)} {pos spos : Pos} {wi : TI} {g : TG} {tt : TT} {te : TE} (hc : HotC X) (hN : X.N.Nodup) (hy : X.N[i]? = some y) (hyl : X.env.scope.names.lookup y = some .local)
    (hsw : swapsWith (.ListComp elt [⟨tg, iter, ifs, 0⟩] scope pos) (some (.Name y py)) spos.line X.env = pure true) (hi : PIQ X tg iter wi) (ok : BlkOk X.N X.env.scope scope own)
    (hg : ∀ (s : Shared) (H : Hp) (C : Addr) (cl : List (Str × Addr)) (fp : List Addr), HotQ (X.blk s H scope (compEnvC scope cl C X.env) fp) → PG (X.blk s H scope (compEnvC scope cl C X.env) fp) tg g) (ht : ∀ (s : Shared) (H : Hp) (C : Addr) (cl : List (Str × Addr)) (fp : List Addr), PTs (X.blk s H scope (compEnvC scope cl C X.env) fp) ifs tt)
    (he : ∀ (s : Shared) (H : Hp) (C : Addr) (cl : List (Str × Addr)) (fp : List Addr), PE (X.blk s H scope (compEnvC scope cl C X.env) fp) elt te) (hs : ∀ x, foldedSetIterable iter X.env x = pure x := by intro _; rfl) :
    PS X (.Assign [.Name y py] (.ListComp elt [⟨tg, iter, ifs, 0⟩] scope pos) spos) (tAsg (tLc wi g tt te (own.map (·.2))) (gName i)) := by
  refine ⟨fun pins s σ H D I h => ?_⟩
  rw [exec_Assign_Name_used _ _ _ _ hsw]
  refine wpAny_bind (wpAny_standAt (wpAny_bind ?_))
  show wpAny _ X.A (do let _ ← comprehension (.ListComp elt [⟨tg, iter, ifs, 0⟩] scope pos) scope X.env (firstIterPos [⟨tg, iter, ifs, 0⟩] pos) (newList []) false (eval iter X.env) (some (assign (.Name y py) X.env))) _ _ s
  have h : tLc wi g tt te (own.map (·.2)) σ H (fun x H1 => gName i x σ H1 D.nx) := h
  refine wpAny_bind (thn (lc_coreH (Qf := fun _ s' => SP X pins D .next s') hc hN I hi ok hg ht he hs h fun L C s' m H' I' q hn f => ?_) fun _ s' hq => wpAny_pure (wpAny_pure hq))
  show wpAny _ _ (assign (.Name y py) X.env (.ref L)) _ _ _
  refine wpAny_assign_Name (store_ok2 (v := V.ref L) I' hN hy (.inl hyl) rfl (fun s2 I2 ⟨a, sb, ha⟩ => ?_) (.inr hyl))
  obtain ⟨f0, f1, f2, f3, f4, f5⟩ := f
  have haC : C ≠ a := by
    rcases ha with z | z
    · rw [z]; exact f1
    · exact fun e => f4 y a z e.symm
  refine ⟨m, hn.sameBut sb haC, fun h3 sb3 => ?_⟩
  exact ⟨_, H', I2.turned (t' := s2.toks) (fun b o hb e => (sb3.2 b hb).trans e) f0 f1 f3 f4 f5, q⟩
end
section
variable {X : Cx} {tg : Expr}
theorem ps_forQ {iter : Expr} {body : List Stmt} {wi : TI} {g : TG} {tb : TS} {pos : Pos} (hp : PassesOwn (model X.prog X.w) X.A X.env X.xe) (hc : HotC X) (hi : PIQ X tg iter wi) (hg : PG X tg g) (hb : PSs X body tb)
    (hs : ∀ x, foldedSetIterable iter X.env x = pure x := by intro _; rfl) : PS X (.For tg iter body [] pos) (tFor wi g tb) := by
  refine ⟨fun pins s σ H D I h => ?_⟩
  refine wpAny_For (thn (hi.run pins s σ H _ I h) fun v s1 h1 => thn h1 fun itv s2 h2 => ?_) hs
  obtain ⟨it, fp, tn, J, H2, e, I2, T, st2, f2, W, ⟨m0, w0⟩, turn⟩ := h2
  subst e
  -- what stays true of the iterator's objects through the loop
  have stat : ∀ {H' : Hp}, (∀ b ∈ fp, H' b = none) → ∀ b ∈ fp, FpOk X pins H' b := fun hn b hb => ⟨hn b hb, (f2 b hb).2⟩
  have hotOf : ∀ (s' : Shared) {σ' : L2.St} {H' : Hp}, Inv X pins σ' H' s' → (∀ b ∈ fp, FpOk X pins H' b) → ∃ x1, HotAt X.A x1 s'.heap ∧ x1 ∉ fp := fun s' {σ' H'} I' hf => by
    obtain ⟨p, ⟨hh, v1, e1, c1⟩, hp⟩ := hc
    exact ⟨p.1, ⟨hh, p.2, v1, (I'.pin p (List.mem_append_left _ hp)).1, e1, c1⟩, fun hm => (hf p.1 hm).2.2.2.2.2 p (List.mem_append_left _ hp) rfl⟩
  refine codeAny_forLoop_any (fun n s' => ∃ i σ' H', Inv X pins σ' H' s' ∧ tn i s'.heap ∧ (∀ b ∈ fp, H' b = none) ∧ W i n σ' H') ?_ m0 ⟨0, σ, H2, I2, st2, fun b hb => (f2 b hb).1, w0⟩
  rintro n s3 ⟨i, σ3, H3, I3, st3, fr3, w3⟩
  rcases turn i n σ3 H3 w3 with ⟨stop, qn⟩ | ⟨go, N, hN, step⟩
  · refine wpAny_passesOwn hp (thn (T.done X rfl rfl rfl (hotOf s3 I3 (stat fr3)) i pins s3 σ3 H3 X.xe rfl I3 (stat fr3) st3 stop) fun r s4 ⟨hr, I4⟩ => ?_)
    subst hr
    exact wpAny_execs_nil ⟨σ3, H3, I4, qn⟩
  · refine wpAny_passesOwn hp (thn (T.item X rfl rfl rfl i pins s3 σ3 H3 X.xe I3 (stat fr3) st3 go) fun r s4 ⟨u, hr, h4⟩ => ?_)
    subst hr
    refine wpAny_passesOwn hp (thn h4 fun _ s5 ⟨x, H5, I5, r5, y5, st5, fr5⟩ => ?_)
    have I5' := I5.pinned (stat fr5) (T.obj _ _ st5)
    refine wpAny_passesOwn hp (thn (hg.run _ s5 σ3 H5 x u _ I5' r5 (step x H5 y5)) fun _ s6 ⟨σ6, H6, I6, q6⟩ => ?_)
    refine wpAny_passesOwn hp (thn (hb.run _ s6 σ6 H6 _ I6 q6) fun f s7 q7 => ?_)
    have again : ∀ {σ7 : L2.St} {H7 : Hp}, Inv X (pins ++ pinsAt fp s5.heap) σ7 H7 s7 → N σ7 H7 → ∃ m, m < n ∧ ∃ i σ' H', Inv X pins σ' H' s7 ∧ tn i s7.heap ∧ (∀ b ∈ fp, H' b = none) ∧ W i m σ' H' := fun {σ7 H7} I7 n7 => by
      obtain ⟨m', hm, w7⟩ := hN σ7 H7 n7
      refine ⟨m', hm, i + 1, σ7, H7, I7.unpinned, T.keep _ _ _ st5 fun b hb o e => (I7.pin (b, o) (List.mem_append_right _ (List.mem_append_right _ (mem_pinsAt hb e)))).1, fun b hb => ?_, w7⟩
      obtain ⟨o, e, d⟩ := T.obj _ _ st5 b hb
      exact (I7.pin (b, o) (List.mem_append_right _ (List.mem_append_right _ (mem_pinsAt hb e)))).2.1
    cases f with
    | next => obtain ⟨σ7, H7, I7, n7⟩ := q7; exact again I7 n7
    | cont => obtain ⟨σ7, H7, I7, n7⟩ := q7; exact again I7 n7
    | brk => obtain ⟨σ7, H7, I7, q7⟩ := q7; exact ⟨σ7, H7, I7.unpinned, q7⟩
    | ret v => obtain ⟨x7, σ7, H7, I7, r7, q7⟩ := q7; exact ⟨x7, σ7, H7, I7.unpinned, r7, q7⟩
end
end KX

set_option autoImplicit false
set_option maxRecDepth 100000
set_option maxHeartbeats 4000000
/-! where an exception is handled: whether parts are let -/
namespace KX
open PySem PySem.Spec PyProof.Rows L2 HotX L2H
/-- a def of the module that can be called where an exception is handled -/
structure FncH (P : Program) (w : World) (K : PySem.W.Frag) (mg : Str → Option Value) (base : Heap) (CX : CXT) (k : Nat) (x : Str) (ps : List Str) (sp : Sp) : Prop where
  ex : ∃ (f : Addr) (fd : FuncData), FnH P w K mg base CX k f fd ps sp ∧ Binds K fd ps [] ∧ mg x = some (.ref f) ∧ PySem.W.keepIn K (.ref f) = true
section
variable {X : Cx} {CX : CXT} {k j : Nat} {x : Str} {ps : List Str} {sp : Sp} {E : L2.St → XK} {p pos : Pos} {e : Expr} {es : List Expr} {t : TA}
theorem pe_fncH (hc : HotC X) (F : FncH X.prog X.w X.K X.mg X.base CX k x ps sp) (hr : RoomH j X.A) (hk : k ≤ j) (hg : Gl X x) (hx : ∀ σ, PassesAt CX X σ (E σ)) (ha : PA X (e :: es) t) (hdb : (x == ("__debug__" : Str)) = false := by decide)
    (he : starEach (e :: es) X.env = (false, eval e X.env) :: starEach es X.env := by rfl) (hpl : (backTo pos (starEach es X.env)).any (·.1) = false := by rfl) : PE X (.Call (.Name x p) (e :: es) [] pos) (tCallS sp E t) := by
  obtain ⟨f, fd, G, hb, hm, hkp⟩ := F.ex
  exact pe_callH G (hr.mono hk) hc hg hm hkp hb hx ha hdb he hpl
end
section
variable {P : Program} {w : World} {K : PySem.W.Frag} {mg : Str → Option Value} {base : Heap}
theorem okH {CX : CXT} {x qual : Str} {st : Stmt} {f : Addr} {fd : FuncData} {N ps : List Str} {k : Nat} {sp : Sp} (F : Fun K x qual st f fd) (S : FnScope N ps (defScope st)) (len : ∀ vs H Q E, sp vs H Q E → vs.length = ps.length)
    (hbody : ∀ (cdv : Value) (A : Around) (outer : List Env) (s : Shared) (H : Hp) (vs : List V) (Q : VK) (E : XK) (p : Addr × Obj), Hot1 A p → RoomH k (A.deeper (envOfC qual (defScope st) s.heap.objs.size f cdv)) → sp vs H Q E →
      ∃ t, PSs (cxH CX P w K mg base N qual (defScope st) f cdv A outer s H E p) (defBody st) t ∧ t { nx := fun _ H' => Q .non H', rt := Q } (L2.start N vs) H) : FnH P w K mg base CX (k + 1) f fd ps sp := by
  obtain ⟨oc, od, kV, doc, pm, an, cdv, ct, osl, rfl, lk, hcd⟩ := F.ex
  exact fn_ofH lk hcd S len fun A outer s H vs Q E p hot hr hsp => hbody cdv A outer s H vs Q E p hot hr hsp
theorem hotC_of {CX : CXT} {A : Around} {outer : List Env} {s : Shared} {H : Hp} {E : XK} {p : Addr × Obj} (h : Hot1 A p) (N : List Str) (qual : Str) (scope : Scope) (f : Addr) (cd : Value) : HotC (cxH CX P w K mg base N qual scope f cd A outer s H E p) := ⟨p, h, List.mem_singleton.mpr rfl⟩
end
end KX
namespace K02
open PySem PySem.Spec PyProof.Rows L2 KX L2H
section
variable {P : Program} {w : World} {K : PySem.W.Frag} {mg : Str → Option Value} {base : Heap}
theorem ok_lens2H {f : Addr} {fd : FuncData} (F : Fun K "_law_lengths" "_law_lengths" sLens f fd) : FnH P w K mg base CX0 1 f fd ["_law_parts_here"] spLens2 := by
  refine okH F scLens (fun vs H Q E h => ?_) (fun cdv A outer s H vs Q E p0 hot hr h => ?_)
  · obtain ⟨a, v1, v2, v3, ps, rfl, _⟩ := h
    rfl
  · obtain ⟨a, v1, v2, v3, ps, rfl, ha, sh, few, q⟩ := h
    have hcH := hotC_of (CX := CX0) (P := P) (w := w) (K := K) (mg := mg) (base := base) (E := E) (s := s) (H := H) (outer := outer) hot
    refine ⟨_, pss_cons (ps_set (i := 1) scLens.nd rfl (.inl rfl) (pe_lst pa_nil))
      (pss_cons (ps_forQ (passes_of rfl) (hcH _ _ _ _ _) (pi_tupQ (pe_ix ix_list (pv 0) pe_int (fun _ _ => rfl))) (pg_tupH (KX.HotC.q (hcH _ _ _ _ _) rfl) (pgs_cons (pg_name (i := 2) scLens.nd rfl (Or.inl rfl) (Or.inr rfl)) (pgs_cons (pg_name (i := 3) scLens.nd rfl (Or.inl rfl) (Or.inr rfl)) pgs_nil)))
        (pss_one (ps_set (i := 1) scLens.nd rfl (.inl rfl) (pe_op op_cat (pv 1) (pe_ifExp (pt_cmpR op_notIn_seq (pv 3) (pv 1) (by with_unfolding_all rfl)) (pe_lst (pa_cons (pv 3) pa_nil)) (pe_lst pa_nil))))))
      (pss_one (ps_ret (pv 1)))), ?_⟩
    refine ⟨(by rw [sizeLine_eq]; decide), fun l0 n0 => ?_⟩
    have sm0 := same_upd (p := l0) (o := .lst []) n0
    obtain ⟨b, xs, rfl, e, ln, at_⟩ := arr_get (Shw.same sh sm0)
    refine ⟨_, rfl, a, _, 0, .ref b, rfl, rfl, SqL.of (sm0 _ _ ha), rfl, b, rfl, ⟨_, SqT.of e⟩, ?_⟩
    refine for_tup (K := K) (a := b) (xs := xs) (fun m σ H' => ∃ (l : Addr) (x y : Option V), σ = [some (.ref a), some (.ref l), x, y] ∧ Same (upd H l0 (.lst [])) H' ∧ H' l = some (.lst ((lensOf (ps.take m)).map V.str))) ⟨l0, none, none, rfl, Same.refl _, upd_same⟩ (fun m σ H' _ hP => ?_) (fun m x σ H' hm hP => ?_) (fun σ H' hP => ?_)
    · obtain ⟨l, x, y, _, s1, _⟩ := hP
      exact SqT.of (s1 _ _ e)
    · obtain ⟨l, x1, y1, rfl, s1, d1⟩ := hP
      obtain ⟨p, c, hp, rfl, ec⟩ := at_ m x hm
      refine ⟨c, _, rfl, SqT.of (s1 _ _ ec), rfl, _, _, rfl, _, _, rfl, rfl, ?_⟩
      have le := lensOf_le (ps.take m)
      rw [List.length_take] at le
      have nx : lensOf (ps.take (m + 1)) = if p.2 ∈ lensOf (ps.take m) then lensOf (ps.take m) else lensOf (ps.take m) ++ [p.2] := by
        unfold lensOf
        rw [List.take_add_one, hp, List.map_append]
        show onceS ((ps.take m).map (·.2) ++ [p.2]) = _
        rw [onceS_snoc]
      refine ⟨_, rfl, _, rfl, _, rfl, l, _, rfl, .inl (SqL.of d1), rfl, flat_strs _, _, rfl, ?_⟩
      have ei : (if true = true then !inV (.str p.2) ((lensOf (ps.take m)).map V.str) else inV (.str p.2) ((lensOf (ps.take m)).map V.str)) = !decide (p.2 ∈ lensOf (ps.take m)) := by rw [if_pos rfl, inV_str]
      rw [ei]
      by_cases mm : p.2 ∈ lensOf (ps.take m)
      · rw [decide_eq_true mm]
        refine iteF ⟨by rw [sizeLine_eq]; decide, fun g ng => ⟨l, g, (lensOf (ps.take m)).map V.str, _, rfl, rfl, ?_, upd_same, ?_, fun r nr => ?_⟩⟩
        · rw [upd_ne (ne_of_none d1 ng)]; exact d1
        · rw [List.length_map, sizeLine_eq]; show _ + 0 ≤ _; omega
        · refine ⟨r, _, _, rfl, s1.trans ((same_upd ng).trans (same_upd nr)), ?_⟩
          rw [upd_same, List.append_nil, nx, if_pos mm]
      · rw [decide_eq_false mm]
        refine iteT ⟨_, rfl, by rw [sizeLine_eq]; show 1 ≤ 16777216; decide, fun g ng => ⟨l, g, (lensOf (ps.take m)).map V.str, _, rfl, rfl, ?_, upd_same, ?_, fun r nr => ?_⟩⟩
        · rw [upd_ne (ne_of_none d1 ng)]; exact d1
        · rw [List.length_map, sizeLine_eq]; show _ + 1 ≤ _; omega
        · refine ⟨r, _, _, rfl, s1.trans ((same_upd ng).trans (same_upd nr)), ?_⟩
          rw [upd_same, nx, if_neg mm, List.map_append]
          rfl
    · obtain ⟨l, x1, y1, rfl, s1, d1⟩ := hP
      rw [ln, List.take_length] at d1
      exact ⟨_, rfl, q l H' (sm0.trans s1) d1⟩
theorem ok_allH {f : Addr} {fd : FuncData} (F : Fun K "_law_all_of" "_law_all_of" sAll f fd) (L : FncH P w K mg base CX0 1 "_law_lengths" ["_law_parts_here"] spLens2) (B : Free mg) : FnH P w K mg base CX0 2 f fd ["_law_parts_here"] spAll := by
  refine okH F scAll (fun vs H Q E h => ?_) (fun cdv A outer s H vs Q E p0 hot hr h => ?_)
  · obtain ⟨a, v1, v2, v3, ps, qs, rs, rfl, _⟩ := h
    rfl
  · obtain ⟨a, v1, v2, v3, ps, qs, rs, rfl, ha, sh, t2, t3, few1, few2, few3, q⟩ := h
    have hcH := hotC_of (CX := CX0) (P := P) (w := w) (K := K) (mg := mg) (base := base) (E := E) (s := s) (H := H) (outer := outer) hot
    refine ⟨_, pss_cons (ps_setLcH (i := 1) (own := [("_law_name", 2), ("_law_length", 3)]) (g := gTup K 2 (gCons (gName 2) (gCons (gName 3) gNil))) (tt := tYes) (hcH _ _ _ _ _) scAll.nd rfl rfl (sw_true rfl rfl rfl (by decide +kernel)) (pi_tupQ (pe_ix ix_list (pv 0) pe_int (fun _ _ => rfl))) (blkOk_by (N := nAll) (sc := defScope sAll) (by decide +kernel))
        (fun _ _ _ _ _ hq => pg_tupH hq (pgs_cons (pg_name (i := 2) scAll.nd rfl (Or.inl rfl) (Or.inr rfl)) (pgs_cons (pg_name (i := 3) scAll.nd rfl (Or.inl rfl) (Or.inr rfl)) pgs_nil))) (fun _ _ _ _ _ => pts_nil) (fun _ _ _ _ _ => pv 2))
      (pss_one (ps_ret (pe_op op_cat (pe_op op_cat (pv 1) (pe_fncH (E := fun _ => E0) (hcH _ _ _ _ _) L hr (by omega) (by rfl) (fun _ => pass0At) (pa_cons (pv 0) pa_nil)))
        (pe_callTy call_list_of (by rfl) B.list (by decide +kernel) (pa_cons (pe_op op_catA (pe_ix ix_list (pv 0) pe_int (fun _ _ => rfl)) (pe_ix ix_list (pv 0) pe_int (fun _ _ => rfl))) pa_nil))))), ?_⟩
    obtain ⟨b, xs, rfl, e, ln, at_⟩ := arr_get sh
    obtain ⟨a2, rfl, e2⟩ := t2
    obtain ⟨a3, rfl, e3⟩ := t3
    refine ⟨_, rfl, a, _, 0, .ref b, rfl, rfl, SqL.of ha, rfl, b, rfl, ⟨_, SqT.of e⟩, fun D nD => ?_⟩
    refine lc_tup (K := K) (a := b) (xs := xs) (fun m H' => Same H H' ∧ H' D = some (.lst ((ps.take m).map fun p => V.str p.1))) ⟨same_upd nD, upd_same⟩ (fun m H' _ hP => SqT.of (hP.1 _ _ e)) (fun m x H' hm hP => ?_) (fun H' hP => ?_)
    · obtain ⟨s1, d1⟩ := hP
      obtain ⟨p, c, hp, rfl, eb⟩ := at_ m x hm
      refine ⟨c, _, rfl, SqT.of (s1 _ _ eb), rfl, _, _, rfl, _, _, rfl, rfl, rfl, _, rfl, _, d1, ?_, fun c o z => ?_, ?_⟩
      · rw [List.length_map, List.length_take, sizeLine_eq]
        omega
      · rw [upd_ne (ne_of_none z nD)]
        exact s1 _ _ z
      · rw [upd_same, List.take_add_one, hp, List.map_append]
        rfl
    · obtain ⟨s1, d1⟩ := hP
      rw [ln, List.take_length] at d1
      have ll := lensOf_le ps
      refine ⟨.ref D, rfl, .ref a, rfl, a, .ref b, .ref a2, .ref a3, ps, rfl, s1 _ _ ha, Shw.same sh s1, few1, fun l H2 s2 e4 => ?_⟩
      have d2 := s2 _ _ d1
      have ha2 := s2 _ _ (s1 _ _ ha)
      refine ⟨D, l, _, _, rfl, rfl, d2, e4, ?_, fun r nr => ?_⟩
      · rw [List.length_map, List.length_map, sizeLine_eq]
        omega
      have s3 := same_upd (p := r) (o := .lst ((ps.map fun p => V.str p.1) ++ (lensOf ps).map V.str)) nr
      have s123 := s1.trans (s2.trans s3)
      refine ⟨.ref a, rfl, a, _, 1, .ref a2, rfl, rfl, SqL.of (s3 _ _ ha2), rfl, .ref a, rfl, a, _, 2, .ref a3, rfl, rfl, SqL.of (s3 _ _ ha2), rfl, ?_⟩
      have fin : ∀ (l2 : Addr) (H5 : Hp), Same H H5 → H5 r = some (.lst ((ps.map fun p => V.str p.1) ++ (lensOf ps).map V.str)) → H5 l2 = some (.lst ((qs ++ rs).map V.str)) → rCat (.ref r) (.ref l2) H5 Q := fun l2 H5 w5 er el => by
        refine ⟨r, l2, _, _, rfl, rfl, er, el, ?_, fun z nz => q z _ (w5.trans (same_upd nz)) ?_⟩
        · simp only [List.length_map, List.length_append, sizeLine_eq]
          omega
        · rw [upd_same]
          unfold wordsOf
          simp only [List.map_append, List.map_map, List.append_assoc]
          rfl
      have g2 := s123 _ _ e2
      have g3 := s123 _ _ e3
      have gr : (upd H2 r (.lst ((ps.map fun p => V.str p.1) ++ (lensOf ps).map V.str))) r = some (.lst ((ps.map fun p => V.str p.1) ++ (lensOf ps).map V.str)) := upd_same
      generalize upd H2 r _ = H3 at s123 g2 g3 gr ⊢
      refine ⟨a2, a3, _, _, rfl, rfl, SqT.of g2, SqT.of g3, ?_, fun h1 => ?_, fun h1 h2 => ?_, fun h1 h2 t nt => ?_⟩
      · rw [List.length_map, List.length_map, sizeLine_eq]
        omega
      · have z := List.map_eq_nil_iff.mp h1
        refine ⟨a3, _, rfl, .inr (SqT.of g3), fun l2 n2 => fin l2 _ (s123.trans (same_upd n2)) (same_upd n2 _ _ gr) ?_⟩
        rw [upd_same, z, List.nil_append]
      · have z := List.map_eq_nil_iff.mp h2
        refine ⟨a2, _, rfl, .inr (SqT.of g2), fun l2 n2 => fin l2 _ (s123.trans (same_upd n2)) (same_upd n2 _ _ gr) ?_⟩
        rw [upd_same, z, List.append_nil]
      · have st := same_upd (p := t) (o := .tup (qs.map V.str ++ rs.map V.str)) nt
        refine ⟨t, _, rfl, .inr (SqT.of upd_same), fun l2 n2 => fin l2 _ ((s123.trans st).trans (same_upd n2)) (same_upd n2 _ _ (st _ _ gr)) ?_⟩
        rw [upd_same, List.map_append]
theorem ok_letH {f : Addr} {fd : FuncData} (F : Fun K "_law_is_let" "_law_is_let" sLet f fd) (A : FncH P w K mg base CX0 2 "_law_all_of" ["_law_parts_here"] spAll) (B : Free mg) : FnH P w K mg base CX0 3 f fd ["_law_parts_here"] spLet := by
  refine okH F scLet (fun vs H Q E h => ?_) (fun cdv A0 outer s H vs Q E p0 hot hr h => ?_)
  · obtain ⟨a, v1, v2, v3, ps, qs, rs, rfl, _⟩ := h
    rfl
  · obtain ⟨a, v1, v2, v3, ps, qs, rs, rfl, ha, sh1, t2, t3, few1, few2, few3, q⟩ := h
    have hcH := hotC_of (CX := CX0) (P := P) (w := w) (K := K) (mg := mg) (base := base) (E := E) (s := s) (H := H) (outer := outer) hot
    refine ⟨_, pss_cons (ps_set (i := 1) scLet.nd rfl (.inl rfl) (pe_fncH (E := fun _ => E0) (hcH _ _ _ _ _) A hr (by omega) (by rfl) (fun _ => pass0At) (pa_cons (pv 0) pa_nil)))
      (pss_one (ps_ret (pe_and (pe_cmpR op_eq (pe_lenWordsH (by rfl) B.len (by rfl) B.set (pv 1) (hcH _ _ _ _ _)) (pe_callB call_len_seq (by rfl) B.len PySem.boot_len (pa_cons (pv 1) pa_nil)) (nomark _))
        (pe_and (pe_cmpR op_lt (pe_callB call_len_seq (by rfl) B.len PySem.boot_len (pa_cons (pe_ix ix_list (pv 0) pe_int (fun _ _ => rfl)) pa_nil)) pe_int (nomark _))
        (pe_and (pe_cmpR op_lt (pe_callB call_len_seq (by rfl) B.len PySem.boot_len (pa_cons (pe_ix ix_list (pv 0) pe_int (fun _ _ => rfl)) pa_nil)) pe_int (nomark _))
        (pe_one (pe_cmpR op_lt (pe_callB call_len_seq (by rfl) B.len PySem.boot_len (pa_cons (pe_ix ix_list (pv 0) pe_int (fun _ _ => rfl)) pa_nil)) pe_int (nomark _)))))))), ?_⟩
    refine ⟨.ref a, rfl, a, v1, v2, v3, ps, qs, rs, rfl, ha, sh1, t2, t3, by omega, by omega, by omega, fun l H1 w1 e1 => ?_⟩
    have few : (wordsOf ps qs rs).length ≤ 1000 := by
      have l4 := lensOf_le ps
      unfold wordsOf
      simp only [List.length_append, List.length_map]
      omega
    obtain ⟨b1, ys, rfl, e5, ln5, _⟩ := arr_get sh1
    obtain ⟨a2, rfl, e2⟩ := t2
    obtain ⟨a3, rfl, e3⟩ := t3
    have ha1 := w1 _ _ ha
    have z := q H1 w1
    refine ⟨.ref l, rfl, l, _, rfl, (SqL.of e1), few, .ref l, rfl, l, _, rfl, .inl (SqL.of e1), rfl, _, rfl, ?_⟩
    have en : nodupW (wordsOf ps qs rs) = decide (V.int ((once (wordsOf ps qs rs)).length : Nat) = V.int (((wordsOf ps qs rs).map V.str).length : Nat)) := by
      unfold nodupW
      rw [List.length_map]
      exact decide_eq_decide.mpr ⟨fun z => congrArg V.int z, fun z => V.int.inj z⟩
    unfold isLetP at z
    rw [← en]
    refine ite2 (fun c1 => ?_) (fun c1 => ?_)
    · rw [c1, Bool.true_and] at z
      refine ⟨.ref a, rfl, a, _, 0, .ref b1, rfl, rfl, SqL.of ha1, rfl, b1, _, rfl, .inr (SqT.of (w1 _ _ e5)), _, _, rfl, rfl, _, rfl, ?_⟩
      have h1 : decide (((ys.length : Nat) : Int) < 13) = decide (ps.length < 13) := decide_eq_decide.mpr (by omega)
      rw [h1]
      refine ite2 (fun c2 => ?_) (fun c2 => ?_)
      · rw [c2, Bool.true_and] at z
        refine ⟨.ref a, rfl, a, _, 1, .ref a2, rfl, rfl, SqL.of ha1, rfl, a2, _, rfl, .inr (SqT.of (w1 _ _ e2)), _, _, rfl, rfl, _, rfl, ?_⟩
        have h2 : decide ((((qs.map V.str).length : Nat) : Int) < 7) = decide (qs.length < 7) := decide_eq_decide.mpr (by rw [List.length_map]; omega)
        rw [h2]
        refine ite2 (fun c3 => ?_) (fun c3 => ?_)
        · rw [c3, Bool.true_and] at z
          refine ⟨.ref a, rfl, a, _, 2, .ref a3, rfl, rfl, SqL.of ha1, rfl, a3, _, rfl, .inr (SqT.of (w1 _ _ e3)), _, _, rfl, rfl, ?_⟩
          have h3 : decide ((((rs.map V.str).length : Nat) : Int) < 7) = decide (rs.length < 7) := decide_eq_decide.mpr (by rw [List.length_map]; omega)
          rw [← h3] at z
          exact z
        · rw [Bool.eq_false_iff.mpr c3, Bool.false_and] at z
          exact z
      · rw [Bool.eq_false_iff.mpr c2, Bool.false_and] at z
        exact z
    · rw [Bool.eq_false_iff.mpr c1, Bool.false_and] at z
      exact z
end
end K02

set_option autoImplicit false
set_option maxRecDepth 100000
set_option maxHeartbeats 4000000
/-! a frame with more names, or the elder one -/
namespace K02
open PySem PySem.Spec PyProof.Rows L2 KX L2H
abbrev sMo : Stmt := topS 47
abbrev nMo : List Str := ["_law_creel_here", "_law_frame_here", "_law_parts_here", "_law_fresh", "_law_due", "_law_kind", "_law_found"]
theorem scMo : FnScope nMo ["_law_creel_here", "_law_frame_here", "_law_parts_here"] (defScope sMo) := ⟨rfl, rfl, rfl, by decide +kernel, rfl, by decide +kernel, by decide +kernel⟩
def stM (i : Nat) : Stmt := (defBody sMo).getD i (.Pass ⟨0, 0, 0, 0⟩)
abbrev MX (P : Program) (w : World) (K : PySem.W.Frag) (mg : Str → Option Value) (base : Heap) (f : Addr) (cdv : Value) (A : Around) (outer : List Env) (s0 : Shared) (H0 : Hp) (E : XK) : Cx := cxOf CX0 P w K mg base nMo "_law_more" (defScope sMo) f cdv A outer s0 H0 E
def gWp {α : Type} (vs zs : List α) : List α := match zs with
  | [a, b, c] => vs ++ [b, a, c]
  | _ => []
abbrev gW (vs zs : List V) : List V := gWp vs zs
structure MF (P : Program) (w : World) (K : PySem.W.Frag) (mg : Str → Option Value) (base : Heap) (C CI : Addr) : Prop where
  T : FrTxt K mg C
  B : Free mg
  pts : Fnc P w K mg base CX0 3 "_law_parts" ["_law_creel_here"] spPts
  lt : Fnc P w K mg base CX0 3 "_law_is_let" ["_law_parts_here"] spLet
  ltH : FncH P w K mg base CX0 3 "_law_is_let" ["_law_parts_here"] spLet
  wi : OMK P w K mg base (L2N.CX P w) 7 C "with_names" nWith (spWith C CI) 1 ["positions", "arrays", "values"] gW
  gI : mg "InvalidFrame" = some (.ref CI)
  kx : PySem.W.exmOne K (.ref CI) (.ref CI) = some true
/-- the parts of two, put together -/
structure Pt0 (H : Hp) (l : Addr) (v1 v2 v3 : V) (ps : List (Str × Str)) (qs rs : List Str) : Prop where
  hl : H l = some (.lst [v1, v2, v3])
  y1 : Arr H v1 ps
  y2 : Txts H v2 qs
  y3 : Txts H v3 rs
theorem Pt0.same {H H' : Hp} {l : Addr} {v1 v2 v3 : V} {ps : List (Str × Str)} {qs rs : List Str} (p : Pt0 H l v1 v2 v3 ps qs rs) (s : Same H H') : Pt0 H' l v1 v2 v3 ps qs rs := ⟨s _ _ p.hl, Shw.same p.y1 s, p.y2.same s, p.y3.same s⟩
theorem PtQ.z {H : Hp} {l : Addr} {v1 v2 v3 : V} {ps : List (Str × Str)} {qs rs : List Str} (p : PtQ H l v1 v2 v3 ps qs rs) : Pt0 H l v1 v2 v3 ps qs rs := ⟨p.hl, p.y1, p.y2, p.y3⟩
section
variable {P : Program} {w : World} {K : PySem.W.Frag} {mg : Str → Option Value} {base : Heap} {C CI f : Addr} {cdv : Value} {A : Around} {outer : List Env} {s0 : Shared} {H0 : Hp} {E : XK} {k : Nat}
def mo0 (C : Addr) : TS := fun D σ H => ∃ (a p l : Addr) (x y c : Int), σ = [some (.ref a), some (.ref p), some (.ref l), none, none, none, none] ∧ H a = some (crl x y c) ∧ Cr x y c ∧ c ≤ 800000 ∧
  ∀ (F : Addr) (w1 w2 w3 : V) (ps : List (Str × Str)) (qs rs : List Str) (x' c' : Int) (H' : Hp), GoodP ps qs rs → Pt0 H' F w1 w2 w3 ps qs rs → H' a = some (crl x' y c') → Cr x' y c' → c' ≤ c + 20 → Grw a H H' → D.nx [some (.ref a), some (.ref p), some (.ref l), some (.ref F), none, none, none] H'
theorem more0 (R : MF P w K mg base C CI) (hr : Room k (A.deeper (envOfC "_law_more" (defScope sMo) s0.heap.objs.size f cdv))) (hk : 8 ≤ k) : PS (MX P w K mg base f cdv A outer s0 H0 E).nox (stM 0) (mo0 C) := by
  refine ps_imp (ps_set (i := 3) scMo.nd rfl (.inr rfl) (pe_fnc R.pts hr (by omega) (by rfl) pass0 (pa_cons (pv 0) pa_nil))) ?_
  rintro D σ H ⟨a, p, l, x, y, c, rfl, ha, C1, hc, q⟩
  exact ⟨.ref a, rfl, a, x, y, c, rfl, ha, C1, hc, fun F w1 w2 w3 ps qs rs x' c' H' g y1 y2 y3 C' e' ha' gr la hl => q F w1 w2 w3 ps qs rs x' c' H' g ⟨hl, y1, y2, y3⟩ ha' C' e' gr⟩
/-- the first parts put together -/
def PtN (H : Hp) (m : Nat) (ws : List V) (ps : List (Str × Str)) (qs rs : List Str) : Prop := ws.length = m ∧ (∀ x, ws[0]? = some x → Arr H x ps) ∧ (∀ x, ws[1]? = some x → Txts H x qs) ∧ ∀ x, ws[2]? = some x → Txts H x rs
theorem arr_keepT {H H' : Hp} (g : ∀ b ys, H b = some (.tup ys) → H' b = some (.tup ys)) {x : V} {ps : List (Str × Str)} (h : Arr H x ps) : Arr H' x ps := by
  obtain ⟨a, xs, rfl, e, r⟩ := shw_tup h
  exact .tup (g _ _ e) (ShwAll.keepT g ps r)
theorem txt_keepT {H H' : Hp} (g : ∀ b ys, H b = some (.tup ys) → H' b = some (.tup ys)) {x : V} {zs : List Str} (h : Txts H x zs) : Txts H' x zs := by
  obtain ⟨a, e, h⟩ := h
  exact ⟨a, e, g _ _ h⟩
theorem PtN.step {H H' : Hp} {m : Nat} {ws : List V} {ps : List (Str × Str)} {qs rs : List Str} (h : PtN H m ws ps qs rs) (g : ∀ b ys, H b = some (.tup ys) → H' b = some (.tup ys)) {z : V} (z0 : m = 0 → Arr H' z ps) (z1 : m = 1 → Txts H' z qs) (z2 : m = 2 → Txts H' z rs) : PtN H' (m + 1) (ws ++ [z]) ps qs rs := by
  obtain ⟨ln, h0, h1, h2⟩ := h
  have at_ : ∀ (i : Nat) (x : V), (ws ++ [z])[i]? = some x → (ws[i]? = some x) ∨ (i = m ∧ x = z) := fun i x hx => by
    rw [List.getElem?_append] at hx
    split at hx
    · exact .inl hx
    · rename_i hlen
      obtain ⟨h3, h4⟩ := List.getElem?_eq_some_iff.mp hx
      rw [List.length_singleton] at h3
      have e0 : i - ws.length = 0 := by omega
      simp only [e0, List.getElem_cons_zero] at h4
      exact .inr ⟨by omega, h4.symm⟩
  refine ⟨by rw [List.length_append, ln]; rfl, fun x hx => ?_, fun x hx => ?_, fun x hx => ?_⟩
  · rcases at_ 0 x hx with e | ⟨e, rfl⟩
    · exact arr_keepT g (h0 x e)
    · exact z0 e.symm
  · rcases at_ 1 x hx with e | ⟨e, rfl⟩
    · exact txt_keepT g (h1 x e)
    · exact z1 e.symm
  · rcases at_ 2 x hx with e | ⟨e, rfl⟩
    · exact txt_keepT g (h2 x e)
    · exact z2 e.symm
def mo1 (C : Addr) : TS := fun D σ H => ∃ (a p l F : Addr) (v1 v2 v3 w1 w2 w3 : V) (ps ps2 : List (Str × Str)) (qs rs qs2 rs2 : List Str), σ = [some (.ref a), some (.ref p), some (.ref l), some (.ref F), none, none, none] ∧ Pt0 H l v1 v2 v3 ps qs rs ∧ Pt0 H F w1 w2 w3 ps2 qs2 rs2 ∧
  ps.length + ps2.length ≤ 1000 ∧ qs.length + qs2.length ≤ 1000 ∧ rs.length + rs2.length ≤ 1000 ∧
  ∀ (L : Addr) (x1 x2 x3 : V) (H' : Hp), Same H H' → Pt0 H' L x1 x2 x3 (ps ++ ps2) (qs ++ qs2) (rs ++ rs2) → D.nx [some (.ref a), some (.ref p), some (.ref l), some (.ref F), some (.ref L), none, none] H'
theorem more1 (R : MF P w K mg base C CI) (hr : Room k (A.deeper (envOfC "_law_more" (defScope sMo) s0.heap.objs.size f cdv))) (hk : 8 ≤ k) : PS (MX P w K mg base f cdv A outer s0 H0 E).nox (stM 1) (mo1 C) := by
  refine ps_imp (ps_setLc (i := 4) (own := [("_law_kind", 5)]) (g := gName 5) (tt := tYes) rfl scMo.nd rfl rfl (sw_true rfl rfl rfl (by decide +kernel)) (pi_range1 (by rfl) R.B.range (pa_cons pe_int pa_nil)) (blkOk_by (N := nMo) (sc := defScope sMo) (by decide +kernel))
    (fun _ _ _ _ _ => pg_name (i := 5) scMo.nd rfl (Or.inl rfl) (Or.inr rfl)) (fun _ _ _ _ _ => pts_nil)
    (fun _ _ _ _ _ => pe_op (r := rCatA K) op_catA (pe_ix (r := rIxL K) ix_list (pv 2) (pv 5) (fun _ _ => rfl)) (pe_ix (r := rIxL K) ix_list (pv 3) (pv 5) (fun _ _ => rfl)))) ?_
  rintro D σ H ⟨a, p, l, F, v1, v2, v3, w1, w2, w3, ps, ps2, qs, rs, qs2, rs2, rfl, a1, a2, l1, l2, l3, q⟩
  refine ⟨3, rfl, by decide, by decide, fun L nL => ?_⟩
  refine lc_range (fun m H' => Same H H' ∧ ∃ ws, H' L = some (.lst ws) ∧ PtN H' m ws (ps ++ ps2) (qs ++ qs2) (rs ++ rs2)) ⟨same_upd nL, [], upd_same, rfl, (fun x hx => nomatch hx), (fun x hx => nomatch hx), (fun x hx => nomatch hx)⟩ (fun m H' hm hP => ?_) (fun H' hP => ?_)
  · obtain ⟨s1, ws, d1, pn⟩ := hP
    have b1 := a1.same s1
    have b2 := a2.same s1
    have hm3 : m < 3 := hm
    have em : (0 : Int) + (m : Nat) = ((m : Nat) : Int) := by omega
    rw [em]
    have lw := pn.1
    have fin : ∀ (z : V) (H4 : Hp), Same H' H4 → (m = 0 → Arr H4 z (ps ++ ps2)) → (m = 1 → Txts H4 z (qs ++ qs2)) → (m = 2 → Txts H4 z (rs ++ rs2)) → ∃ acc, H4 L = some (.lst acc) ∧ acc.length < sizeLine ∧ (Same H (upd H4 L (.lst (acc ++ [z]))) ∧ ∃ ws, (upd H4 L (.lst (acc ++ [z]))) L = some (.lst ws) ∧ PtN (upd H4 L (.lst (acc ++ [z]))) (m + 1) ws (ps ++ ps2) (qs ++ qs2) (rs ++ rs2)) := fun z H4 s4 z0 z1 z2 => by
      have d4 := s4 _ _ d1
      have up : ∀ b ys, H4 b = some (.tup ys) → (upd H4 L (.lst (ws ++ [z]))) b = some (.tup ys) := fun b ys e => by
        rw [upd_ne fun e2 => by rw [e2, d4] at e; cases e]
        exact e
      refine ⟨ws, d4, by rw [lw, sizeLine_eq]; omega, fun b o e => ?_, ws ++ [z], upd_same, pn.step (fun b ys e => up b ys (s4 _ _ e)) (fun e => arr_keepT up (z0 e)) (fun e => txt_keepT up (z1 e)) (fun e => txt_keepT up (z2 e))⟩
      rw [upd_ne (ne_of_none e nL)]
      exact s4 _ _ (s1 _ _ e)
    rcases (by omega : m = 0 ∨ m = 1 ∨ m = 2) with rfl | rfl | rfl
    · refine ⟨rfl, .ref l, rfl, .int 0, rfl, l, _, 0, v1, rfl, rfl, SqL.of b1.hl, rfl, .ref F, rfl, .int 0, rfl, F, _, 0, w1, rfl, rfl, SqL.of b2.hl, rfl, ?_⟩
      refine cat_shw b1.y1 b2.y1 (by rw [List.length_map, List.length_map, sizeLine_eq]; omega) fun r H4 s4 c4 => fin r H4 s4 (fun _ => ?_) (fun e => nomatch e) (fun e => nomatch e)
      rw [← List.map_append] at c4
      exact c4
    · refine ⟨rfl, .ref l, rfl, .int 1, rfl, l, _, 1, v2, rfl, rfl, SqL.of b1.hl, rfl, .ref F, rfl, .int 1, rfl, F, _, 1, w2, rfl, rfl, SqL.of b2.hl, rfl, ?_⟩
      refine cat_shw (txts_shw b1.y2) (txts_shw b2.y2) (by rw [List.length_map, List.length_map, sizeLine_eq]; omega) fun r H4 s4 c4 => fin r H4 s4 (fun e => nomatch e) (fun _ => ?_) (fun e => by omega)
      rw [← List.map_append] at c4
      exact txts_of c4
    · refine ⟨rfl, .ref l, rfl, .int 2, rfl, l, _, 2, v3, rfl, rfl, SqL.of b1.hl, rfl, .ref F, rfl, .int 2, rfl, F, _, 2, w3, rfl, rfl, SqL.of b2.hl, rfl, ?_⟩
      refine cat_shw (txts_shw b1.y3) (txts_shw b2.y3) (by rw [List.length_map, List.length_map, sizeLine_eq]; omega) fun r H4 s4 c4 => fin r H4 s4 (fun e => nomatch e) (fun e => by omega) (fun _ => ?_)
      rw [← List.map_append] at c4
      exact txts_of c4
  · obtain ⟨s1, ws, d1, pn⟩ := hP
    obtain ⟨ln, h0, h1, h2⟩ := pn
    match ws, ln with
    | [x1, x2, x3], _ => exact q L x1 x2 x3 H' s1 ⟨d1, h0 x1 rfl, h1 x2 rfl, h2 x3 rfl⟩
end
end K02

set_option autoImplicit false
set_option maxRecDepth 100000
set_option maxHeartbeats 4000000
/-! a frame with more names, or the elder one: what is raised, and the def -/
namespace K02
open PySem PySem.Spec PyProof.Rows L2 KX L2H
theorem Pt0.q {H : Hp} {l : Addr} {v1 v2 v3 : V} {ps : List (Str × Str)} {qs rs : List Str} (p : Pt0 H l v1 v2 v3 ps qs rs) (g : GoodQ ps qs rs) : PtQ H l v1 v2 v3 ps qs rs := ⟨p.hl, p.y1, p.y2, p.y3, g⟩
/-- a changed frame and its parts -/
def spChg (C : Addr) (n : Int) : Sp := fun vs H Q _ => ∃ (a p l : Addr) (v1 v2 v3 y1 y2 y3 : V) (ps : List (Str × Str)) (qs rs : List Str) (x y c : Int), vs = [.ref a, .ref p, .ref l] ∧ H a = some (crl x y c) ∧ Cr x y c ∧ c ≤ 700000 ∧ l ≠ a ∧ FrameAt C H p v1 v2 v3 ps qs rs ∧ PtQ H l y1 y2 y3 ps qs rs ∧
  ∀ (r p' l' : Addr) (u1 u2 u3 z1 z2 z3 : V) (ps' : List (Str × Str)) (qs' rs' : List Str) (x' c' : Int) (H' : Hp), H' r = some (.lst [.ref p', .ref l']) → r ≠ a → l' ≠ a → FrameAt C H' p' u1 u2 u3 ps' qs' rs' → PtQ H' l' z1 z2 z3 ps' qs' rs' → H' a = some (crl x' y c') → Cr x' y c' → c' ≤ c + n → Grw a H H' → Q (.ref r) H'
section
variable {P : Program} {w : World} {K : PySem.W.Frag} {mg : Str → Option Value} {base : Heap} {C CI f : Addr} {cdv : Value} {A : Around} {outer : List Env} {s0 : Shared} {H0 : Hp} {E : XK} {k : Nat}
def mo2 (C : Addr) : TS := fun D σ H => ∃ (a p l F L : Addr) (v1 v2 v3 w1 w2 w3 x1 x2 x3 : V) (ps ps2 : List (Str × Str)) (qs rs qs2 rs2 : List Str), σ = [some (.ref a), some (.ref p), some (.ref l), some (.ref F), some (.ref L), none, none] ∧ FrameAt C H p v1 v2 v3 ps qs rs ∧ Pt0 H F w1 w2 w3 ps2 qs2 rs2 ∧ Pt0 H L x1 x2 x3 (ps ++ ps2) (qs ++ qs2) (rs ++ rs2) ∧ GoodQ ps qs rs ∧ GoodP ps2 qs2 rs2 ∧
  (isLetP (ps ++ ps2) (qs ++ qs2) (rs ++ rs2) = false → ∀ (r : Addr) (H' : Hp), Same H H' → H r = none → H' r = some (.lst [.ref p, .ref l]) → D.rt (.ref r) H') ∧
  (isLetP (ps ++ ps2) (qs ++ qs2) (rs ++ rs2) = true → ∀ (p' : Addr) (u1 u2 u3 : V) (H' : Hp), Same H H' → FrameAt C H' p' u1 u2 u3 (ps ++ ps2) (qs ++ qs2) (rs ++ rs2) → D.nx [some (.ref a), some (.ref p), some (.ref l), some (.ref F), some (.ref L), none, some (.ref p')] H')
theorem more2 (R : MF P w K mg base C CI) (hr : Room k (A.deeper (envOfC "_law_more" (defScope sMo) s0.heap.objs.size f cdv))) (hk : 8 ≤ k) : PS (MX P w K mg base f cdv A outer s0 H0 E).nox (stM 2) (mo2 C) := by
  refine ps_imp (ps_try_onlyX (tb := fun W => tAsg (tMethN C "with_names" 1 3 (spWith C CI) gW (WE W) (tVar 1) tNil (tCons (tOp (rIxL K) (tVar 3) (tC (.int 1))) (tCons (tOp (rIxL K) (tVar 3) (tC (.int 0))) (tCons (tOp (rIxL K) (tVar 3) (tC (.int 2))) tNil)))) (gName 6))
    (ts := fun _ _ _ => tRet (tIf (tB (tCallS spLet (fun _ => E0) (tCons (tVar 4) tNil))) (tLst tNil) (tLst (tCons (tVar 1) (tCons (tVar 2) tNil))))) (Wout := fun _ _ _ _ => False) rfl rfl ⟨rfl, by decide, Or.inl R.gI⟩ (fun _ _ _ h => h.elim) takes0
      (fun W pn xe tk _ _ => pss_one (ps_set (i := 6) scMo.nd rfl (.inl rfl) (pe_omk0 (pl := _) R.wi R.T.cl hr (by omega) (fun σ => L2N.passAt tk σ) (pv 1) (pk_cons (pe_ix ix_list (pv 3) pe_int (fun _ _ => rfl)) (pk_cons (pe_ix ix_list (pv 3) pe_int (fun _ _ => rfl)) (pk_cons (pe_ix ix_list (pv 3) pe_int (fun _ _ => rfl)) pk_nil))))))
      (fun a oe cls d pn _ _ _ hc => pss_one (ps_ret (pe_ifExp (pt_val (pe_fncH hc R.ltH (j := k) ⟨(roomH_of hr).dp, (roomH_of hr).un⟩ (by omega) (by rfl) (fun _ => pass0At) (pa_cons (pv 4) pa_nil))) (pe_lst pa_nil) (pe_lst (pa_cons (pv 1) (pa_cons (pv 2) pa_nil))))))) ?_
  rintro D σ H ⟨a, p, l, F, L, v1, v2, v3, w1, w2, w3, x1, x2, x3, ps, ps2, qs, rs, qs2, rs2, rfl, Fr, pF, pL, g1, g2, bad, good⟩
  have l1 := g1.l1
  have l2 := g1.l2
  have l3 := g1.l3
  have m1 := g2.l1
  have m2 := g2.l2
  have m3 := g2.l3
  have wd := g1.w.add g2.wds
  have k1 : (ps ++ ps2).length ≤ 20 := by rw [List.length_append]; omega
  have k2 : (qs ++ qs2).length ≤ 20 := by rw [List.length_append]; omega
  have k3 : (rs ++ rs2).length ≤ 20 := by rw [List.length_append]; omega
  obtain ⟨dx, t, d2, e4, ob, _⟩ := id Fr.ob
  refine ⟨.ref p, rfl, p, dx, _, rfl, ob, lookup_zip_none (by decide +kernel), .ref F, rfl, F, _, 1, w2, rfl, rfl, SqL.of pF.hl, rfl, .ref F, rfl, F, _, 0, w1, rfl, rfl, SqL.of pF.hl, rfl, .ref F, rfl, F, _, 2, w3, rfl, rfl, SqL.of pF.hl, rfl, rfl, rfl, ?_⟩
  refine ⟨p, v1, v2, v3, w1, w2, w3, ps, ps2, qs, rs, qs2, rs2, rfl, Fr, pF.y1, pF.y2, pF.y3, by omega, by omega, by omega, gd_prs18 (by omega) wd.m1, gd_strs18 (by omega) wd.m2, gd_strs18 (by omega) wd.m3, fun z H' w' => ?_, fun z p' u1 u2 u3 H' w' Fr' => ?_⟩
  · rw [isFrame_let wd] at z
    refine ⟨true, R.kx, fun _ a' _ => ?_, fun e => nomatch e⟩
    have pL' := pL.same w'
    refine ⟨.ref L, rfl, L, x1, x2, x3, _, _, _, rfl, pL'.hl, pL'.y1, pL'.y2, pL'.y3, by omega, by omega, by omega, fun H2 w2' => ⟨_, rfl, ?_⟩⟩
    refine iteF' z ⟨_, rfl, _, rfl, by rw [sizeLine_eq]; show 2 ≤ 16777216; decide, fun r nr => bad z r _ (w'.trans (w2'.trans (same_upd nr))) (none_back (w'.trans w2') nr) upd_same⟩
  · rw [isFrame_let wd] at z
    exact good z p' u1 u2 u3 H' w' Fr'
def mo3 (C : Addr) : TS := fun D σ H => ∃ (a p l F L p' : Addr) (x1 x2 x3 : V) (ps : List (Str × Str)) (qs rs : List Str), σ = [some (.ref a), some (.ref p), some (.ref l), some (.ref F), some (.ref L), none, some (.ref p')] ∧ Pt0 H L x1 x2 x3 ps qs rs ∧ GoodQ ps qs rs ∧
  ∀ (r : Addr) (H' : Hp), Same H H' → H r = none → H' r = some (.lst [.ref p', .ref L]) → D.rt (.ref r) H'
theorem more3 (R : MF P w K mg base C CI) (hr : Room k (A.deeper (envOfC "_law_more" (defScope sMo) s0.heap.objs.size f cdv))) (hk : 8 ≤ k) : PS (MX P w K mg base f cdv A outer s0 H0 E).nox (stM 3) (mo3 C) := by
  refine ps_imp (ps_ret (pe_ifExp (pt_val (pe_fnc R.lt hr (by omega) (by rfl) pass0 (pa_cons (pv 4) pa_nil))) (pe_lst (pa_cons (pv 6) (pa_cons (pv 4) pa_nil))) (pe_lst pa_nil))) ?_
  rintro D σ H ⟨a, p, l, F, L, p', x1, x2, x3, ps, qs, rs, rfl, pL, g1, q⟩
  have l1 := g1.l1
  have l2 := g1.l2
  have l3 := g1.l3
  refine ⟨.ref L, rfl, L, x1, x2, x3, _, _, _, rfl, pL.hl, pL.y1, pL.y2, pL.y3, by omega, by omega, by omega, fun H2 w2' => ⟨_, rfl, ?_⟩⟩
  refine iteT' g1.let_ ⟨_, rfl, _, rfl, by rw [sizeLine_eq]; show 2 ≤ 16777216; decide, fun r nr => q r _ (w2'.trans (same_upd nr)) (none_back w2' nr) upd_same⟩
end
section
variable {P : Program} {w : World} {K : PySem.W.Frag} {mg : Str → Option Value} {base : Heap}
theorem ok_more {f C CI : Addr} {fd : FuncData} (F : Fun K "_law_more" "_law_more" sMo f fd) (R : MF P w K mg base C CI) : FnOk P w K mg base CX0 9 f fd ["_law_creel_here", "_law_frame_here", "_law_parts_here"] (spChg C 20) := by
  refine F.ok scMo (fun vs H Q E h => ?_) (fun cdv A outer s H vs Q E hr h => ?_)
  · obtain ⟨a, p, l, v1, v2, v3, y1, y2, y3, ps, qs, rs, x, y, c, rfl, _⟩ := h
    rfl
  · obtain ⟨a, p, l, v1, v2, v3, y1, y2, y3, ps, qs, rs, x, y, c, rfl, ha, C1, hc, la, Fr, pq, q⟩ := h
    refine ⟨_, PSs.nox (pss_cons (more0 (E := E) R hr (by omega)) (pss_cons (more1 (E := E) R hr (by omega)) (pss_cons (more2 (E := E) R hr (by omega)) (pss_one (more3 (E := E) R hr (by omega)))))), ?_⟩
    have l1 := pq.g.l1
    have l2 := pq.g.l2
    have l3 := pq.g.l3
    refine ⟨a, p, l, x, y, c, rfl, ha, C1, by omega, fun F w1 w2 w3 ps2 qs2 rs2 x' c' H1 g2 pF ha1 C2 hc2 gr => ?_⟩
    have m1 := g2.l1
    have m2 := g2.l2
    have m3 := g2.l3
    have pl1 : Pt0 H1 l y1 y2 y3 ps qs rs := ⟨gr _ _ la pq.hl, Shw.off ha gr (by simp only [offD, off_prs]) pq.y1, txts_off ha gr pq.y2, txts_off ha gr pq.y3⟩
    have Fr1 := Fr.grow ha gr
    refine ⟨a, p, l, F, y1, y2, y3, w1, w2, w3, ps, ps2, qs, rs, qs2, rs2, rfl, pl1, pF, by omega, by omega, by omega, fun L x1 x2 x3 H2 s2 pL => ?_⟩
    have Fr2 := Fr1.same s2
    have La : L ≠ a := fun e => by
      have h1 := pL.hl
      rw [e, s2 _ _ ha1] at h1
      obtain ⟨b, xs, e1, _⟩ := shw_tup pL.y1
      injection h1 with h1
      injection h1 with h1
      injection h1 with h1
      rw [e1] at h1
      cases h1
    refine ⟨a, p, l, F, L, v1, v2, v3, w1, w2, w3, x1, x2, x3, ps, ps2, qs, rs, qs2, rs2, rfl, Fr2, pF.same s2, pL, pq.g, g2, fun z r H3 s3 nr hr3 => ?_, fun z p' u1 u2 u3 H3 s3 Fr3 => ?_⟩
    · have s23 := s2.trans s3
      have ra : r ≠ a := fun e => by rw [e, s2 _ _ ha1] at nr; cases nr
      exact q r p l v1 v2 v3 y1 y2 y3 ps qs rs x' c' H3 hr3 ra la (Fr1.same s23) ((pl1.q pq.g).same s23) (s23 _ _ ha1) C2 (by omega) (gr.trans (Grw.of s23))
    · have gg : GoodQ (ps ++ ps2) (qs ++ qs2) (rs ++ rs2) := GoodQ.of (pq.g.w.add g2.wds) z
      refine ⟨a, p, l, F, L, p', x1, x2, x3, _, _, _, rfl, pL.same s3, gg, fun r H4 s4 nr hr4 => ?_⟩
      have s24 := (s2.trans s3).trans s4
      have ra : r ≠ a := fun e => by rw [e, s3 _ _ (s2 _ _ ha1)] at nr; cases nr
      exact q r p' L u1 u2 u3 x1 x2 x3 _ _ _ x' c' H4 hr4 ra La (Fr3.same s4) ((pL.q gg).same (s3.trans s4)) (s24 _ _ ha1) C2 (by omega) (gr.trans (Grw.of s24))
end
end K02

set_option autoImplicit false
set_option maxRecDepth 100000
set_option maxHeartbeats 4000000
/-! a frame with other names: the names that are drawn -/
namespace K02
open PySem PySem.Spec PyProof.Rows L2 KX
abbrev sOt : Stmt := topS 48
abbrev nOt : List Str := ["_law_creel_here", "_law_frame_here", "_law_parts_here", "_law_names", "_law_some", "_law_fresh", "_law_change", "_law_due", "_law_name", "_law_length", "_law_row", "_law_is_let_here", "_law_found", "_law_term", "_law_far", "_law_one"]
theorem scOt : FnScope nOt ["_law_creel_here", "_law_frame_here", "_law_parts_here"] (defScope sOt) := ⟨rfl, rfl, rfl, by decide +kernel, rfl, by decide +kernel, by decide +kernel⟩
def stO (i : Nat) : Stmt := (defBody sOt).getD i (.Pass ⟨0, 0, 0, 0⟩)
abbrev OX (P : Program) (w : World) (K : PySem.W.Frag) (mg : Str → Option Value) (base : Heap) (f : Addr) (cdv : Value) (A : Around) (outer : List Env) (s0 : Shared) (H0 : Hp) (E : XK) : Cx := cxOf CX0 P w K mg base nOt "_law_other" (defScope sOt) f cdv A outer s0 H0 E
structure OF (P : Program) (w : World) (K : PySem.W.Frag) (mg : Str → Option Value) (base : Heap) (C CO T1 : Addr) : Prop where
  T : FrTxt K mg C
  B : Free mg
  bd : mg "dict" = none
  bz : mg "zip" = none
  fish : Fnc P w K mg base CX0 1 "_law_fish" ["_law_creel_here", "_law_total"] spFish
  one : Fnc P w K mg base CX0 2 "_law_one_of" ["_law_creel_here", "_law_items"] spOne
  few : Fnc P w K mg base CX0 2 "_law_few_of" ["_law_creel_here", "_law_items", "_law_count"] spFewM
  allOf : Fnc P w K mg base CX0 2 "_law_all_of" ["_law_parts_here"] spAll
  near : Fnc P w K mg base CX0 3 "_law_term_near" ["_law_creel_here", "_law_parts_here", "_law_mine"] spNear
  wor : Fnc P w K mg base CX0 3 "_law_is_worth" ["_law_parts_here", "_law_value", "_law_mine"] spWor
  ren : OM P w K mg base (L2.CX P w) 8 C "renamed" ["self", "names"] (spRen C CO)
  isV0 : OMD P w K mg base CX0 5 C "is_value_term" ["self", "value", "own"] (spIsT K C isVal) [.ref T1]
  t1 : ∀ H, SqT K H T1 []
  gO : mg "InvalidOperation" = some (.ref CO)
  kx : PySem.W.exmOne K (.ref CO) (.ref CO) = some true
theorem strs_ne {H : Hp} {p a : Addr} {zs : List Str} {x y c : Int} (h : H p = some (.lst (zs.map V.str))) (ha : H a = some (crl x y c)) : p ≠ a := fun e => by
  rw [e, ha] at h
  injection h with h
  injection h with h
  cases zs with
  | nil => cases h
  | cons z zs =>
    injection h with h
    cases h
theorem perm_mem {fs ls ws : List Str} (h : (fs ++ ls).Perm ws) : ∀ z ∈ fs, z ∈ ws := fun _ hz => h.subset (List.mem_append_left ls hz)
theorem perm_nd {fs ls ws : List Str} (h : (fs ++ ls).Perm ws) (n : ws.Nodup) : fs.Nodup := (List.nodup_append.mp (h.nodup_iff.mpr n)).1
/-- the words of which some are new names -/
def FW : List Str := ["new", "old", "a", "i", "n", "x"]
theorem FW_18 : ∀ z ∈ FW, z ∈ W18 := by decide +kernel
theorem GoodQ.wlen {ps : List (Str × Str)} {qs rs : List Str} (g : GoodQ ps qs rs) : (wordsOf ps qs rs).length ≤ 100 := by
  have l1 := g.l1
  have l2 := g.l2
  have l3 := g.l3
  have l4 := lensOf_le ps
  unfold wordsOf
  simp only [List.length_append, List.length_map]
  omega
section
variable {P : Program} {w : World} {K : PySem.W.Frag} {mg : Str → Option Value} {base : Heap} {C CO T1 f : Addr} {cdv : Value} {A : Around} {outer : List Env} {s0 : Shared} {H0 : Hp} {E : XK} {k : Nat}
def ot0 : TS := fun D σ H => ∃ (a p l : Addr) (v1 v2 v3 : V) (ps : List (Str × Str)) (qs rs : List Str), σ = [some (.ref a), some (.ref p), some (.ref l), none, none, none, none, none, none, none, none, none, none, none, none, none] ∧ PtQ H l v1 v2 v3 ps qs rs ∧
  ∀ (N : Addr) (H' : Hp), Same H H' → H' N = some (.lst ((wordsOf ps qs rs).map V.str)) → D.nx [some (.ref a), some (.ref p), some (.ref l), some (.ref N), none, none, none, none, none, none, none, none, none, none, none, none] H'
theorem oth0 (R : OF P w K mg base C CO T1) (hr : Room k (A.deeper (envOfC "_law_other" (defScope sOt) s0.heap.objs.size f cdv))) (hk : 8 ≤ k) : PS (OX P w K mg base f cdv A outer s0 H0 E).nox (stO 0) ot0 := by
  refine ps_imp (ps_set (i := 3) scOt.nd rfl (.inl rfl) (pe_fnc R.allOf hr (by omega) (by rfl) pass0 (pa_cons (pv 2) pa_nil))) ?_
  rintro D σ H ⟨a, p, l, v1, v2, v3, ps, qs, rs, rfl, pq, q⟩
  have l1 := pq.g.l1
  have l2 := pq.g.l2
  have l3 := pq.g.l3
  exact ⟨.ref l, rfl, l, v1, v2, v3, ps, qs, rs, rfl, pq.hl, pq.y1, pq.y2, pq.y3, by omega, by omega, by omega, fun N H' s e => q N H' s e⟩
def ot1 : TS := fun D σ H => ∃ (a p l N : Addr) (x y c : Int) (ws : List Str), σ = [some (.ref a), some (.ref p), some (.ref l), some (.ref N), none, none, none, none, none, none, none, none, none, none, none, none] ∧ H a = some (crl x y c) ∧ Cr x y c ∧ c ≤ 800000 ∧ H N = some (.lst (ws.map V.str)) ∧ ws.length ≤ 100 ∧
  ∀ (S : Addr) (fs ls : List Str) (x' c' : Int) (H' : Hp), fs.length ≤ 3 → (fs ++ ls).Perm ws → H' a = some (crl x' y c') → Cr x' y c' → c' ≤ c + 4 → Grw a H H' → S ≠ a → H' S = some (.lst (fs.map V.str)) → D.nx [some (.ref a), some (.ref p), some (.ref l), some (.ref N), some (.ref S), none, none, none, none, none, none, none, none, none, none, none] H'
theorem oth1 (R : OF P w K mg base C CO T1) (hr : Room k (A.deeper (envOfC "_law_other" (defScope sOt) s0.heap.objs.size f cdv))) (hk : 8 ≤ k) : PS (OX P w K mg base f cdv A outer s0 H0 E).nox (stO 1) ot1 := by
  refine ps_imp (ps_set (i := 4) scOt.nd rfl (.inl rfl) (pe_fnc R.few hr (by omega) (by rfl) pass0 (pa_cons (pv 0) (pa_cons (pv 3) (pa_cons (pe_fnc R.fish hr (by omega) (by rfl) pass0 (pa_cons (pv 0) (pa_cons pe_int pa_nil))) pa_nil))))) ?_
  rintro D σ H ⟨a, p, l, N, x, y, c, ws, rfl, ha, C1, hc, hN, lw, q⟩
  have Na := strs_ne hN ha
  refine ⟨.ref a, rfl, .ref N, rfl, .ref a, rfl, a, x, y, c, 4, rfl, ha, C1, by omega, by omega, by omega, fun r x1 c1 r0 r3 C2 e1 => ?_⟩
  have er : r = ((r.toNat : Nat) : Int) := (Int.toNat_of_nonneg r0).symm
  have g1 : Grw a H (upd H a (crl x1 y c1)) := Grw.upd
  refine ⟨a, N, x1, y, c1, _, r.toNat, by rw [← er]; rfl, Na, upd_same, C2, by omega, g1 _ _ Na hN, by omega, by omega, fun L fs ls x2 c2 H2 lf pm C3 e2 ha2 g2 La hL => ?_⟩
  exact q L fs ls x2 c2 H2 (by omega) pm ha2 C3 (by omega) (g1.trans g2) La hL
def ot2 : TS := fun D σ H => ∃ (a p l N S : Addr) (x y c : Int) (fs : List Str), σ = [some (.ref a), some (.ref p), some (.ref l), some (.ref N), some (.ref S), none, none, none, none, none, none, none, none, none, none, none] ∧ H a = some (crl x y c) ∧ Cr x y c ∧ c ≤ 800000 ∧ H S = some (.lst (fs.map V.str)) ∧ fs.length ≤ 3 ∧
  ∀ (F : Addr) (gs : List Str) (x' c' : Int) (H' : Hp), gs.length = fs.length → (∀ z ∈ gs, z ∈ W18) → H' a = some (crl x' y c') → Cr x' y c' → c' ≤ c + 3 → Grw a H H' → F ≠ a → H' F = some (.lst (gs.map V.str)) → D.nx [some (.ref a), some (.ref p), some (.ref l), some (.ref N), some (.ref S), some (.ref F), none, none, none, none, none, none, none, none, none, none] H'
theorem oth2 (R : OF P w K mg base C CO T1) (hr : Room k (A.deeper (envOfC "_law_other" (defScope sOt) s0.heap.objs.size f cdv))) (hk : 8 ≤ k) : PS (OX P w K mg base f cdv A outer s0 H0 E).nox (stO 2) ot2 := by
  refine ps_imp (ps_set (i := 5) scOt.nd rfl (.inl rfl) (pe_fnc R.few hr (by omega) (by rfl) pass0 (pa_cons (pv 0) (pa_cons (pe_lst (pa_cons pe_str (pa_cons pe_str (pa_cons pe_str (pa_cons pe_str (pa_cons pe_str (pa_cons pe_str pa_nil))))))) (pa_cons (pe_callB (r := rLen K) call_len_seq (by rfl) R.B.len PySem.boot_len (pa_cons (pv 4) pa_nil)) pa_nil))))) ?_
  rintro D σ H ⟨a, p, l, N, S, x, y, c, fs, rfl, ha, C1, hc, hS, lf, q⟩
  refine ⟨.ref a, rfl, by rw [sizeLine_eq]; show 6 ≤ 16777216; decide, fun L nL => ?_⟩
  have La : L ≠ a := (ne_of_none ha nL).symm
  have sL := same_upd (p := L) (o := .lst [.str "new", .str "old", .str "a", .str "i", .str "n", .str "x"]) nL
  have hL : (upd H L (.lst [.str "new", .str "old", .str "a", .str "i", .str "n", .str "x"])) L = some (.lst (FW.map V.str)) := upd_same
  generalize upd H L (.lst [.str "new", .str "old", .str "a", .str "i", .str "n", .str "x"]) = H1 at sL hL ⊢
  refine ⟨.ref S, rfl, S, _, rfl, .inl (SqL.of (sL _ _ hS)), ?_⟩
  refine ⟨a, L, x, y, c, FW, fs.length, by rw [List.length_map]; rfl, La, sL _ _ ha, C1, by omega, hL, by decide, by omega, fun F gs ls x2 c2 H2 lg pm C3 e2 ha2 g2 Fa hF => ?_⟩
  refine q F gs x2 c2 H2 (by rw [lg]; show min fs.length 6 = _; omega) (fun z hz => FW_18 z (perm_mem pm z hz)) ha2 C3 (by omega) ((Grw.of sL).trans g2) Fa hF
def ot3 : TS := fun D σ H => ∃ (a p l N S F : Addr) (x y c : Int) (fs gs : List Str), σ = [some (.ref a), some (.ref p), some (.ref l), some (.ref N), some (.ref S), some (.ref F), none, none, none, none, none, none, none, none, none, none] ∧ H a = some (crl x y c) ∧ Cr x y c ∧ c ≤ 800000 ∧ H S = some (.lst (fs.map V.str)) ∧ fs.length ≤ 3 ∧ (∀ z ∈ fs, z ∈ W18) ∧
  H F = some (.lst (gs.map V.str)) ∧ gs.length = fs.length ∧ (∀ z ∈ gs, z ∈ W18) ∧
  ∀ (F' : Addr) (gs' : List Str) (x' c' : Int) (H' : Hp), gs'.length = fs.length → (∀ z ∈ gs', z ∈ W18) → H' a = some (crl x' y c') → Cr x' y c' → c' ≤ c + 10 → Grw a H H' → H' F' = some (.lst (gs'.map V.str)) → D.nx [some (.ref a), some (.ref p), some (.ref l), some (.ref N), some (.ref S), some (.ref F'), none, none, none, none, none, none, none, none, none, none] H'
theorem oth3 (R : OF P w K mg base C CO T1) (hr : Room k (A.deeper (envOfC "_law_other" (defScope sOt) s0.heap.objs.size f cdv))) (hk : 8 ≤ k) : PS (OX P w K mg base f cdv A outer s0 H0 E).nox (stO 3) ot3 := by
  refine ps_imp (ps_set (i := 5) scOt.nd rfl (.inl rfl) (pe_fnc R.one hr (by omega) (by rfl) pass0 (pa_cons (pv 0) (pa_cons (pe_lst (pa_cons (pe_fnc R.few hr (by omega) (by rfl) pass0 (pa_cons (pv 0) (pa_cons (pv 4) (pa_cons pe_int pa_nil)))) (pa_cons (pv 5) pa_nil))) pa_nil)))) ?_
  rintro D σ H ⟨a, p, l, N, S, F, x, y, c, fs, gs, rfl, ha, C1, hc, hS, lf, wf, hF, lg, wg, q⟩
  have Fa := strs_ne hF ha
  refine ⟨.ref a, rfl, .ref a, rfl, .ref S, rfl, a, S, x, y, c, fs, 9, rfl, strs_ne hS ha, ha, C1, by omega, hS, by omega, by omega, fun L hs ls x2 c2 H2 lh pm C2 e2 ha2 g2 La hL => ?_⟩
  refine ⟨.ref F, rfl, by rw [sizeLine_eq]; show 2 ≤ 16777216; decide, fun M nM => ?_⟩
  have sM := same_upd (p := M) (o := .lst [.ref L, .ref F]) nM
  have ha3 := sM _ _ ha2
  have hL3 := sM _ _ hL
  have hF3 := sM _ _ (g2 _ _ Fa hF)
  have Ma : M ≠ a := (ne_of_none ha2 nM).symm
  refine ⟨a, .ref M, x2, y, c2, rfl, ha3, C2, by omega, .inl ⟨M, [.ref L, .ref F], rfl, upd_same, Ma, by show 0 < 2; omega, by show 2 ≤ 1000; omega, fun r v x3 c3 hv C3 e3 => ?_⟩⟩
  have g3 : Grw a (upd H2 M (.lst [.ref L, .ref F])) (upd (upd H2 M (.lst [.ref L, .ref F])) a (crl x3 y c3)) := Grw.upd
  have gr := (g2.trans (Grw.of sM)).trans g3
  match r, hv with
  | 0, hv =>
    obtain rfl : V.ref L = v := Option.some.inj hv
    exact q L hs x3 c3 _ (by rw [lh]; omega) (fun z hz => wf z (perm_mem pm z hz)) upd_same C3 (by omega) gr (g3 _ _ La hL3)
  | 1, hv =>
    obtain rfl : V.ref F = v := Option.some.inj hv
    exact q F gs x3 c3 _ lg wg upd_same C3 (by omega) gr (g3 _ _ Fa hF3)
  | r + 2, hv => cases hv
def ot4 : TS := fun D σ H => ∃ (a p l N S F : Addr) (fs gs : List Str), σ = [some (.ref a), some (.ref p), some (.ref l), some (.ref N), some (.ref S), some (.ref F), none, none, none, none, none, none, none, none, none, none] ∧ H S = some (.lst (fs.map V.str)) ∧ H F = some (.lst (gs.map V.str)) ∧ gs.length = fs.length ∧ fs.length ≤ 3 ∧ fs.Nodup ∧
  ∀ (e : Addr) (H' : Hp), Same H H' → H' e = some (.dK (lenK (fs.zip gs))) → D.nx [some (.ref a), some (.ref p), some (.ref l), some (.ref N), some (.ref S), some (.ref F), some (.ref e), none, none, none, none, none, none, none, none, none] H'
theorem paired_zip {H : Hp} : ∀ {fs gs : List Str} {ps : List Addr}, ps.length = fs.length → gs.length = fs.length → PairsAt H (fs.map V.str) (gs.map V.str) ps → Paired (fun p (kv : Key × V) => SqT (K : PySem.W.Frag) H p [kV kv.1, kv.2]) ps (lenK (fs.zip gs))
  | [], [], [], _, _, _ => .nil
  | f :: fs, g :: gs, p :: ps, h1, h2, h => by
    obtain ⟨x, y, e1, e2, e3⟩ := h 0 p rfl
    cases e1
    cases e2
    exact .cons (SqT.of e3) (paired_zip (Nat.succ.inj h1) (Nat.succ.inj h2) fun j p hj => h (j + 1) p hj)
theorem oth4 (R : OF P w K mg base C CO T1) (hr : Room k (A.deeper (envOfC "_law_other" (defScope sOt) s0.heap.objs.size f cdv))) (hk : 8 ≤ k) : PS (OX P w K mg base f cdv A outer s0 H0 E).nox (stO 4) ot4 := by
  refine ps_imp (ps_set (i := 6) scOt.nd rfl (.inr rfl) (pe_callTy (call_dictP rfl) (by rfl) R.bd (by decide +kernel) (pa_cons (pe_listZip rfl (by rfl) R.B.list (by rfl) R.bz (pa_cons (pv 4) (pa_cons (pv 5) pa_nil))) pa_nil))) ?_
  rintro D σ H ⟨a, p, l, N, S, F, fs, gs, rfl, hS, hF, lg, lf, nd, q⟩
  refine ⟨.ref S, rfl, .ref F, rfl, S, F, _, _, rfl, SqL.of hS, SqL.of hF, by rw [List.length_map, List.length_map, lg], by rw [List.length_map]; omega, fun Z H1 ps s1 nZ hZ lp pr => ?_⟩
  refine ⟨Z, ps, lenK (fs.zip gs), rfl, SqL.of hZ, paired_zip (by rw [lp, List.length_map]) lg pr, fun e ne => ?_⟩
  have em : mergeK [] (lenK (fs.zip gs)) = lenK (fs.zip gs) := by
    rw [merge_new]
    · rfl
    · rw [List.nil_append, lenK_keys, List.map_fst_zip (by omega)]
      exact List.pairwise_map.mpr (List.Pairwise.imp (fun h e => h (Sum.inr.inj e)) nd)
  rw [em]
  exact q e _ (s1.trans (same_upd ne)) upd_same
end
end K02

set_option autoImplicit false
set_option maxRecDepth 100000
set_option maxHeartbeats 4000000
/-! a frame with other names: the parts that are due, and whether they are let -/
namespace K02
open PySem PySem.Spec PyProof.Rows L2 KX
/-- the parts, and the dict with other names -/
structure OtS (l e : Addr) (v1 v2 v3 : V) (ps : List (Str × Str)) (qs rs : List Str) (cs : List (Str × Str)) (H : Hp) : Prop where
  pq : PtQ H l v1 v2 v3 ps qs rs
  he : H e = some (.dK (lenK cs))
  few : cs.length ≤ 1000
  nm : ∀ c ∈ cs, c.1 ∈ wordsOf ps qs rs ∧ c.2 ∈ W18
theorem OtS.same {l e : Addr} {v1 v2 v3 : V} {ps : List (Str × Str)} {qs rs : List Str} {cs : List (Str × Str)} {H H' : Hp} (h : OtS l e v1 v2 v3 ps qs rs cs H) (s : Same H H') : OtS l e v1 v2 v3 ps qs rs cs H' := ⟨h.pq.same s, s _ _ h.he, h.few, h.nm⟩
/-- tuple(e) -/
def rTupOf (K : PySem.W.Frag) : List V → Hp → VK → Prop := fun xs H Q => ∃ p ys, xs = [V.ref p] ∧ ((SqL K H p ys ∧ ∀ (l : Addr), H l = none → Q (V.ref l) (upd H l (HO.tup ys))) ∨ SqT K H p ys ∧ Q (V.ref p) H)
abbrev scRw : Scope := { kind := .function, names := [(".0", .local), ("_law_row", .local), ("tuple", .globalImplicit), ("_law_change", .cell)], isGenerator := false, isCoroutine := false }
section
variable {P : Program} {w : World} {K : PySem.W.Frag} {mg : Str → Option Value} {base : Heap} {C CO T1 f : Addr} {cdv : Value} {A : Around} {outer : List Env} {s0 : Shared} {H0 : Hp} {E : XK} {k : Nat}
/-- the names' new names, as a list -/
theorem lc_ren {a e D : Addr} {zs : List Str} {cs : List (Str × Str)} {H1 : Hp} {σ : L2.St} {vs : List Nat} {Qd : Hp → Prop} {i j : Nat} (hx : SqT K H1 a (zs.map V.str)) (he : H1 e = some (.dK (lenK cs))) (n : H1 D = none) (few : zs.length ≤ 100000)
    (st : ∀ z : Str, wipe ((wipe σ vs).set i (some (.str z))) vs = wipe σ vs) (g6 : ∀ z : Str, ((wipe σ vs).set i (some (.str z)))[j]? = some (some (.ref e))) (gi : ∀ z : Str, ((wipe σ vs).set i (some (.str z)))[i]? = some (some (.str z)))
    (fin : ∀ H', Same H1 H' → H' D = some (.lst (zs.map fun z => V.str (ren cs z))) → Qd H') :
    ∃ W : Nat → Nat → Hp → Prop, (∃ m, W 0 m (upd H1 D (.lst []))) ∧ ∀ i' m H, W i' m H →
      ((Itt K a).stop i' H ∧ Qd H) ∨ ((Itt K a).go i' H ∧ ∃ Nx : Hp → Prop, (∀ H', Nx H' → ∃ m', m' < m ∧ W (i' + 1) m' H') ∧ ∀ x H', (Itt K a).yld i' H x H' → gName i x (wipe σ vs) H' fun σ2 H2 => wipe σ2 vs = wipe σ vs ∧ tYes σ2 H2 fun b H3 =>
        if b = true then tDGet2 (tVar j) (tVar i) (tVar i) σ2 H3 fun y H4 => ∃ acc, H4 D = some (.lst acc) ∧ acc.length < sizeLine ∧ Nx (upd H4 D (.lst (acc ++ [y]))) else Nx H3) := by
  refine lc_txt (K := K) (fun z => .str (ren cs z)) hx n few (fun z H' Q' hz s1 k => ?_) fin
  have he' := s1 _ _ he
  refine ⟨st z, .ref e, g6 z, e, rfl, .inl ⟨_, .inl he'⟩, .str z, gi z, .str z, gi z, _, DGet.k (k := Sum.inr z) he', ?_⟩
  rw [ren_val]
  exact k H' (Same.refl H')
def ot5 : TS := fun D σ H => ∃ (a p l N S F e : Addr) (v1 v2 v3 : V) (ps : List (Str × Str)) (qs rs : List Str) (cs : List (Str × Str)), σ = [some (.ref a), some (.ref p), some (.ref l), some (.ref N), some (.ref S), some (.ref F), some (.ref e), none, none, none, none, none, none, none, none, none] ∧ OtS l e v1 v2 v3 ps qs rs cs H ∧
  ∀ (M t : Addr) (H' : Hp), Same H H' → H' M = some (.lst [.ref t]) → Arr H' (.ref t) (ps.map (renP cs)) → D.nx [some (.ref a), some (.ref p), some (.ref l), some (.ref N), some (.ref S), some (.ref F), some (.ref e), some (.ref M), none, none, none, none, none, none, none, none] H'
theorem oth5 (R : OF P w K mg base C CO T1) (hr : Room k (A.deeper (envOfC "_law_other" (defScope sOt) s0.heap.objs.size f cdv))) (hk : 8 ≤ k) : PS (OX P w K mg base f cdv A outer s0 H0 E).nox (stO 5) ot5 := by
  have hu := hu_of hr
  refine ps_imp (ps_set (i := 7) scOt.nd rfl (.inl rfl) (pe_lst (pa_cons (pe_callTy call_tuple_of (by rfl) R.B.tuple (by decide +kernel) (pa_cons (pe_lc (own := [("_law_name", 8), ("_law_length", 9)]) (g := gTup K 2 (gCons (gName 8) (gCons (gName 9) gNil))) (tt := tYes) rfl scOt.nd (pi_tup (pe_ix (r := rIxL K) ix_list (pv 2) pe_int (fun _ _ => rfl))) (blkOk_by (N := nOt) (sc := defScope sOt) (by decide +kernel))
        (fun _ _ _ _ _ => pg_tup rfl (pgs_cons (pg_name (i := 8) scOt.nd rfl (Or.inl rfl) (Or.inr rfl)) (pgs_cons (pg_name (i := 9) scOt.nd rfl (Or.inl rfl) (Or.inr rfl)) pgs_nil))) (fun _ _ _ _ _ => pts_nil)
        (fun _ _ _ _ _ => pe_tup (pa_cons (pe_dget2 hu (pv 6) (pv 8) (pv 8) ⟨rfl, rfl, rfl, rfl⟩) (pa_cons (pe_dget2 hu (pv 6) (pv 9) (pv 9) ⟨rfl, rfl, rfl, rfl⟩) pa_nil)))) pa_nil)) pa_nil))) ?_
  rintro D σ H ⟨a0, p, l, N, S0, F, e, v1, v2, v3, ps, qs, rs, cs, rfl, S, q⟩
  have l1 := S.pq.g.l1
  obtain ⟨a, xs, rfl, ea, lx, at_⟩ := arr_get S.pq.y1
  refine ⟨.ref l, rfl, l, _, 0, .ref a, rfl, rfl, SqL.of S.pq.hl, rfl, a, rfl, ⟨_, SqT.of ea⟩, fun L nL => ?_⟩
  refine lc_tup (K := K) (a := a) (xs := xs) (fun m H' => Same H H' ∧ ∃ ys, H' L = some (.lst ys) ∧ ShwAll H' ys (((ps.take m).map (renP cs)).map prD)) ⟨same_upd nL, [], upd_same, by rw [List.take_zero]; exact .nil⟩ (fun m H' _ hP => SqT.of (hP.1 _ _ ea)) (fun m x H' hm hP => ?_) (fun H' hP => ?_)
  · obtain ⟨s1, ys, d1, sy⟩ := hP
    obtain ⟨c, b, hc, rfl, eb⟩ := at_ m x hm
    have he := s1 _ _ S.he
    refine ⟨b, _, rfl, SqT.of (s1 _ _ eb), rfl, _, _, rfl, _, _, rfl, rfl, rfl, ?_⟩
    refine ⟨.ref e, rfl, e, rfl, .inl ⟨_, .inl he⟩, .str c.1, rfl, .str c.1, rfl, _, DGet.k (k := Sum.inr c.1) he, ?_⟩
    refine ⟨.ref e, rfl, e, rfl, .inl ⟨_, .inl he⟩, .str c.2, rfl, .str c.2, rfl, _, DGet.k (k := Sum.inr c.2) he, ?_⟩
    rw [ren_val, ren_val]
    refine ⟨(by rw [sizeLine_eq]; show 2 ≤ _; decide), fun T nT => ?_⟩
    have sT := same_upd (p := T) (o := .tup [V.str (ren cs c.1), V.str (ren cs c.2)]) nT
    have d2' := sT _ _ d1
    have TL := ne_of_none d1 nT
    have ly := ShwAll.len sy
    simp only [List.length_map, List.length_take] at ly
    refine ⟨ys, d2', by rw [sizeLine_eq]; omega, fun b o eb => ?_, ys ++ [.ref T], upd_same, ?_⟩
    · rw [upd_ne (ne_of_none eb nL)]
      exact sT _ _ (s1 _ _ eb)
    · rw [List.take_add_one, hc, List.map_append, List.map_append]
      refine ShwAll.snoc ?_ ?_
      · refine ShwAll.keepT (fun b zs eb => ?_) _ (ShwAll.same sy sT)
        rw [upd_ne fun z => by rw [z, d2'] at eb; cases eb]
        exact eb
      · exact .tup (by rw [upd_ne TL.symm, upd_same]; rfl) (.cons (.str _) (.cons (.str _) .nil))
  · obtain ⟨s1, ys, d1, sy⟩ := hP
    rw [lx, List.take_length] at sy
    refine ⟨L, ys, rfl, .inl ⟨SqL.of d1, fun t nt => ?_⟩⟩
    have st := same_upd (p := t) (o := .tup ys) nt
    have ar : Arr (upd H' t (.tup ys)) (.ref t) (ps.map (renP cs)) := .tup upd_same (ShwAll.same sy st)
    generalize upd H' t (.tup ys) = H2 at st ar ⊢
    refine ⟨by rw [sizeLine_eq]; show 1 ≤ 16777216; decide, fun M nM => ?_⟩
    have sM := same_upd (p := M) (o := .lst [.ref t]) nM
    exact q M t _ ((s1.trans st).trans sM) upd_same (Shw.same ar sM)
def ot6 : TS := fun D σ H => ∃ (a p l N S F e M t : Addr) (v1 v2 v3 : V) (ps : List (Str × Str)) (qs rs : List Str) (cs : List (Str × Str)), σ = [some (.ref a), some (.ref p), some (.ref l), some (.ref N), some (.ref S), some (.ref F), some (.ref e), some (.ref M), none, none, none, none, none, none, none, none] ∧ OtS l e v1 v2 v3 ps qs rs cs H ∧ H M = some (.lst [.ref t]) ∧ Arr H (.ref t) (ps.map (renP cs)) ∧
  ∀ (L : Addr) (x1 x2 x3 : V) (H' : Hp), Same H H' → Pt0 H' L x1 x2 x3 (ps.map (renP cs)) (qs.map (ren cs)) (rs.map (ren cs)) → D.nx [some (.ref a), some (.ref p), some (.ref l), some (.ref N), some (.ref S), some (.ref F), some (.ref e), some (.ref L), none, none, none, none, none, none, none, none] H'
theorem oth6 (R : OF P w K mg base C CO T1) (hr : Room k (A.deeper (envOfC "_law_other" (defScope sOt) s0.heap.objs.size f cdv))) (hk : 8 ≤ k) : PS (OX P w K mg base f cdv A outer s0 H0 E).nox (stO 6) ot6 := by
  have hu := hu_of hr
  refine ps_imp (ps_set (i := 7) scOt.nd rfl (.inl rfl) (pe_op (r := rCat) op_cat (pv 7) (pe_lc (own := [("_law_row", 10)]) (g := gName 10) (tt := tYes) (te := tCB (rTupOf K) (tCons (tLc (iTup K (tVar 10)) (gName 8) tYes (tDGet2 (tVar 6) (tVar 8) (tVar 8)) [8]) tNil)) rfl scOt.nd (pi_list (pe_slice sl_list (pv 2) (po_some pe_int) po_none)) (blkOk_by (N := nOt) (sc := defScope sOt) (by decide +kernel))
        (fun _ _ _ _ _ => pg_name (i := 10) scOt.nd rfl (Or.inl rfl) (Or.inr rfl)) (fun _ _ _ _ _ => pts_nil)
        (fun _ _ _ _ _ => pe_callTy (T := "tuple") (r := rTupOf K) call_tuple_of (by rfl) R.B.tuple (by decide +kernel) (pa_cons (pe_lc (own := [("_law_name", 8)]) (g := gName 8) (tt := tYes) rfl scOt.nd (pi_tup (pv 10)) (blkOk_by (N := nOt) (sc := scRw) (by decide +kernel))
          (fun _ _ _ _ _ => pg_name (i := 8) scOt.nd rfl (Or.inl rfl) (Or.inr rfl)) (fun _ _ _ _ _ => pts_nil)
          (fun _ _ _ _ _ => pe_dget2 hu (pv 6) (pv 8) (pv 8) ⟨rfl, rfl, rfl, rfl⟩)) pa_nil))))) ?_
  rintro D σ H ⟨a0, p, l, N, S0, F, e, M, t, v1, v2, v3, ps, qs, rs, cs, rfl, S, hM, ar, q⟩
  have l2 := S.pq.g.l2
  have l3 := S.pq.g.l3
  obtain ⟨a2, rfl, e2⟩ := id S.pq.y2
  obtain ⟨a3, rfl, e3⟩ := id S.pq.y3
  refine ⟨.ref M, rfl, .ref l, rfl, 1, rfl, l, _, rfl, SqL.of S.pq.hl, fun Z nZ => ?_⟩
  have ec : cutV [v1, .ref a2, .ref a3] (some 1) none = [.ref a2, .ref a3] := rfl
  rw [ec]
  have sZ := same_upd (p := Z) (o := .lst [.ref a2, .ref a3]) nZ
  have hZ : (upd H Z (.lst [.ref a2, .ref a3])) Z = some (.lst [.ref a2, .ref a3]) := upd_same
  generalize upd H Z (.lst [.ref a2, .ref a3]) = H1 at sZ hZ ⊢
  refine ⟨Z, rfl, ⟨_, SqL.of hZ⟩, fun L nL => ?_⟩
  refine lc_list (K := K) (a := Z) (xs := [.ref a2, .ref a3]) (fun m H' => Same H1 H' ∧ ∃ ys, H' L = some (.lst ys) ∧ ys.length = m ∧ (∀ x, ys[0]? = some x → Txts H' x (qs.map (ren cs))) ∧ (∀ x, ys[1]? = some x → Txts H' x (rs.map (ren cs)))) ⟨same_upd nL, [], upd_same, rfl, (fun x hx => nomatch hx), (fun x hx => nomatch hx)⟩ (fun m H' _ hP => SqL.of (hP.1 _ _ hZ)) (fun m x H' hm hP => ?_) (fun H' hP => ?_)
  · obtain ⟨s1, ys, d1, ly, y0, y1⟩ := hP
    have s01 := sZ.trans s1
    have he := s01 _ _ S.he
    have m2 : m < 2 := by
      have := (List.getElem?_eq_some_iff.mp hm).1
      exact this
    obtain ⟨zs, b, rfl, hb, lz, z0, z1⟩ : ∃ (zs : List Str) (b : Addr), x = .ref b ∧ H' b = some (.tup (zs.map V.str)) ∧ zs.length ≤ 6 ∧ (m = 0 → zs = qs) ∧ (m = 1 → zs = rs) := by
      match m, m2 with
      | 0, _ => exact ⟨qs, a2, (Option.some.inj hm).symm, s01 _ _ e2, l2, fun _ => rfl, fun e => nomatch e⟩
      | 1, _ => exact ⟨rs, a3, (Option.some.inj hm).symm, s01 _ _ e3, l3, (fun e => nomatch e), fun _ => rfl⟩
    refine ⟨rfl, .ref b, rfl, b, rfl, ⟨_, SqT.of hb⟩, fun T nT => ?_⟩
    refine lc_ren (K := K) (e := e) (cs := cs) (SqT.of hb) he nT (by omega) (fun _ => rfl) (fun _ => rfl) (fun _ => rfl) (fun H2 s2 dT => ?_)
    refine ⟨T, _, rfl, .inl ⟨SqL.of dT, fun u nu => ?_⟩⟩
    have su := same_upd (p := u) (o := .tup (zs.map fun z => V.str (ren cs z))) nu
    have tu : Txts (upd H2 u (.tup (zs.map fun z => V.str (ren cs z)))) (.ref u) (zs.map (ren cs)) := ⟨u, rfl, by rw [upd_same, List.map_map]; rfl⟩
    have s12 := s2.trans su
    generalize upd H2 u (.tup (zs.map fun z => V.str (ren cs z))) = H3 at tu s12 ⊢
    have d3 := s12 _ _ d1
    have up : ∀ (c : Addr) (o : HO), H3 c = some o → c ≠ L → (upd H3 L (.lst (ys ++ [.ref u]))) c = some o := fun c o h n => by rw [upd_ne n]; exact h
    have tup' : ∀ (v : V) (ws : List Str), Txts H3 v ws → Txts (upd H3 L (.lst (ys ++ [.ref u]))) v ws := fun v ws ⟨c, ev, ec⟩ => ⟨c, ev, up c _ ec (fun z => by rw [z, d3] at ec; cases ec)⟩
    have hc : (m = 0 ∧ ys = []) ∨ (m = 1 ∧ ∃ y, ys = [y]) := by
      match ys, ly with
      | [], ly => exact .inl ⟨ly.symm, rfl⟩
      | [y], ly => exact .inr ⟨ly.symm, y, rfl⟩
      | y :: y2 :: ys, ly =>
        rw [List.length_cons, List.length_cons] at ly
        omega
    refine ⟨ys, d3, by rw [ly, sizeLine_eq]; omega, fun c o ec => ?_, ys ++ [.ref u], upd_same, by rw [List.length_append, ly]; rfl, fun v hv => ?_, fun v hv => ?_⟩
    · rw [upd_ne (ne_of_none ec nL)]
      exact s12 _ _ (s1 _ _ ec)
    · rcases hc with ⟨rfl, rfl⟩ | ⟨rfl, y, rfl⟩
      · obtain rfl : V.ref u = v := Option.some.inj hv
        rw [← z0 rfl]
        exact tup' _ _ tu
      · obtain rfl : y = v := Option.some.inj hv
        exact tup' _ _ ((y0 y rfl).same s12)
    · rcases hc with ⟨rfl, rfl⟩ | ⟨rfl, y, rfl⟩
      · cases hv
      · obtain rfl : V.ref u = v := Option.some.inj hv
        rw [← z1 rfl]
        exact tup' _ _ tu
  · obtain ⟨s1, ys, d1, ly, y0, y1⟩ := hP
    match ys, ly with
    | [x2, x3], _ =>
      have s01 := sZ.trans s1
      refine ⟨M, L, [.ref t], [x2, x3], rfl, rfl, s01 _ _ hM, d1, by rw [sizeLine_eq]; show 3 ≤ 16777216; decide, fun R' nR => ?_⟩
      have sR := same_upd (p := R') (o := .lst [.ref t, x2, x3]) nR
      exact q R' (.ref t) x2 x3 _ (s01.trans sR) ⟨upd_same, Shw.same ar (s01.trans sR), (y0 x2 rfl).same sR, (y1 x3 rfl).same sR⟩
def ot7 : TS := fun D σ H => ∃ (a p l N S F e M : Addr) (cs : List (Str × Str)) (ws : List Str), σ = [some (.ref a), some (.ref p), some (.ref l), some (.ref N), some (.ref S), some (.ref F), some (.ref e), some (.ref M), none, none, none, none, none, none, none, none] ∧ H N = some (.lst (ws.map V.str)) ∧ ws.length ≤ 100 ∧ H e = some (.dK (lenK cs)) ∧
  ∀ H', Same H H' → D.nx [some (.ref a), some (.ref p), some (.ref l), some (.ref N), some (.ref S), some (.ref F), some (.ref e), some (.ref M), none, none, none, some (.bl (nodupW (ws.map (ren cs)))), none, none, none, none] H'
theorem oth7 (R : OF P w K mg base C CO T1) (hr : Room k (A.deeper (envOfC "_law_other" (defScope sOt) s0.heap.objs.size f cdv))) (hk : 8 ≤ k) : PS (OX P w K mg base f cdv A outer s0 H0 E).nox (stO 7) ot7 := by
  have hu := hu_of hr
  refine ps_imp (ps_set (i := 11) scOt.nd rfl (.inl rfl) (pe_cmpR op_eq (pe_lenWords (by rfl) R.B.len (by rfl) R.B.set (pe_lc (own := [("_law_name", 8)]) (g := gName 8) (tt := tYes) rfl scOt.nd (pi_list (pv 3)) (blkOk_by (N := nOt) (sc := defScope sOt) (by decide +kernel))
        (fun _ _ _ _ _ => pg_name (i := 8) scOt.nd rfl (Or.inl rfl) (Or.inr rfl)) (fun _ _ _ _ _ => pts_nil)
        (fun _ _ _ _ _ => pe_dget2 hu (pv 6) (pv 8) (pv 8) ⟨rfl, rfl, rfl, rfl⟩))) (pe_callB call_len_seq (by rfl) R.B.len PySem.boot_len (pa_cons (pv 3) pa_nil)) (nomark _))) ?_
  rintro D σ H ⟨a, p, l, N, S, F, e, M, cs, ws, rfl, hN, lw, he, q⟩
  refine ⟨.ref N, rfl, N, rfl, ⟨_, SqL.of hN⟩, fun L nL => ?_⟩
  refine lc_list (K := K) (a := N) (xs := ws.map V.str) (fun m H' => Same H H' ∧ H' L = some (.lst ((ws.take m).map fun z => V.str (ren cs z)))) ⟨same_upd nL, by rw [List.take_zero]; exact upd_same⟩ (fun m H' _ hP => SqL.of (hP.1 _ _ hN)) (fun m x H' hm hP => ?_) (fun H' hP => ?_)
  · obtain ⟨s1, d1⟩ := hP
    rw [List.getElem?_map] at hm
    cases hz : ws[m]? with
    | none => rw [hz] at hm; cases hm
    | some z =>
      rw [hz] at hm
      obtain rfl : V.str z = x := Option.some.inj hm
      have he' := s1 _ _ he
      refine ⟨rfl, .ref e, rfl, e, rfl, .inl ⟨_, .inl he'⟩, .str z, rfl, .str z, rfl, _, DGet.k (k := Sum.inr z) he', ?_⟩
      rw [ren_val]
      refine ⟨_, d1, ?_, fun b o eb => ?_, ?_⟩
      · rw [List.length_map, List.length_take, sizeLine_eq]
        omega
      · rw [upd_ne (ne_of_none eb nL)]
        exact s1 _ _ eb
      · rw [upd_same, List.take_add_one, hz, List.map_append]
        rfl
  · obtain ⟨s1, d1⟩ := hP
    rw [List.length_map, List.take_length] at d1
    have d2 : H' L = some (.lst ((ws.map (ren cs)).map V.str)) := by rw [d1, List.map_map]; rfl
    refine ⟨L, ws.map (ren cs), rfl, .inl (SqL.of d2), by rw [List.length_map]; omega, .ref N, rfl, N, _, rfl, .inl (SqL.of (s1 _ _ hN)), ?_⟩
    have en : nodupW (ws.map (ren cs)) = decide (V.int ((once (ws.map (ren cs))).length : Nat) = V.int ((ws.map V.str).length : Nat)) := by
      unfold nodupW
      rw [List.length_map, List.length_map]
      exact decide_eq_decide.mpr ⟨fun z => congrArg V.int z, fun z => V.int.inj z⟩
    refine ⟨rfl, ?_⟩
    rw [← en]
    exact q H' s1
end
end K02

set_option autoImplicit false
set_option maxRecDepth 100000
set_option maxHeartbeats 4000000
/-! a frame with other names: the frame, and a term in it -/
namespace K02
open PySem PySem.Spec PyProof.Rows L2 KX
/-- a value's texts with other names -/
def renD (cs : List (Str × Str)) : PyData → PyData
  | .str z => .str (ren cs z)
  | d => d
abbrev StO (a p l N S F e M : Addr) (b : Bool) (o12 o13 o14 : Option V) : L2.St := [some (.ref a), some (.ref p), some (.ref l), some (.ref N), some (.ref S), some (.ref F), some (.ref e), some (.ref M), none, none, none, some (.bl b), o12, o13, o14, none]
section
variable {P : Program} {w : World} {K : PySem.W.Frag} {mg : Str → Option Value} {base : Heap} {C CO T1 f : Addr} {cdv : Value} {A : Around} {outer : List Env} {s0 : Shared} {H0 : Hp} {E : XK} {k : Nat}
def ot8 (C : Addr) : TS := fun D σ H => ∃ (a p l N S F e M : Addr) (u1 u2 u3 v1 v2 v3 : V) (ps : List (Str × Str)) (qs rs : List Str) (cs : List (Str × Str)), σ = StO a p l N S F e M (nodupW ((wordsOf ps qs rs).map (ren cs))) none none none ∧ FrameAt C H p u1 u2 u3 ps qs rs ∧ OtS l e v1 v2 v3 ps qs rs cs H ∧
  (nodupW ((wordsOf ps qs rs).map (ren cs)) = false → ∀ (r : Addr) (H' : Hp), Same H H' → H r = none → H' r = some (.lst [.ref p, .ref l]) → D.rt (.ref r) H') ∧
  (nodupW ((wordsOf ps qs rs).map (ren cs)) = true → ∀ (p' : Addr) (x1 x2 x3 : V) (H' : Hp), Same H H' → FrameAt C H' p' x1 x2 x3 (ps.map (renP cs)) (qs.map (ren cs)) (rs.map (ren cs)) → D.nx (StO a p l N S F e M true (some (.ref p')) none none) H')
theorem oth8 (R : OF P w K mg base C CO T1) (hr : Room k (A.deeper (envOfC "_law_other" (defScope sOt) s0.heap.objs.size f cdv))) (hk : 8 ≤ k) : PS (OX P w K mg base f cdv A outer s0 H0 E).nox (stO 8) (ot8 C) := by
  refine ps_imp (ps_try_only (tb := fun W => tAsg (tMethA C "renamed" (spRen C CO) (WE W) (tVar 1) (tCons (tVar 6) tNil)) (gName 12)) (ts := fun _ _ _ => tRet (tIf (tB (tVar 11)) (tLst tNil) (tLst (tCons (tVar 1) (tCons (tVar 2) tNil))))) (Wout := fun _ _ _ _ => False) rfl rfl ⟨rfl, by decide, Or.inl R.gO⟩ takes0
      (fun W pn xe tk _ => pss_one (ps_set (i := 12) scOt.nd rfl (.inl rfl) (pe_oma (pl := _) R.ren R.T.cl hr (by omega) (fun σ => passAt tk σ) (pv 1) (pa_cons (pv 6) pa_nil))))
      (fun _ _ _ _ _ _ _ => pss_one (ps_ret (pe_ifExp (pt_val (pv 11)) (pe_lst pa_nil) (pe_lst (pa_cons (pv 1) (pa_cons (pv 2) pa_nil))))))) ?_
  rintro D σ H ⟨a, p, l, N, S, F, e, M, u1, u2, u3, v1, v2, v3, ps, qs, rs, cs, rfl, Fr, S0, bad, good⟩
  obtain ⟨dx, t, d2, e4, ob, _⟩ := id Fr.ob
  refine ⟨.ref p, rfl, p, dx, _, rfl, ob, lookup_zip_none (by decide +kernel), .ref e, rfl, ?_⟩
  refine ⟨p, e, u1, u2, u3, ps, qs, rs, cs, rfl, ⟨Fr, S0.he, S0.few, S0.nm, S0.pq.g⟩, fun z H' w' => ?_, fun z p' x1 x2 x3 H' w' Fr' => ?_⟩
  · refine ⟨true, R.kx, fun _ a' _ => ⟨_, rfl, _, rfl, ?_⟩, fun e => nomatch e⟩
    refine iteF' z ⟨_, rfl, _, rfl, by rw [sizeLine_eq]; show 2 ≤ 16777216; decide, fun r nr => bad z r _ (w'.trans (same_upd nr)) (none_back w' nr) upd_same⟩
  · have := good z p' x1 x2 x3 H' w' Fr'
    rw [z]
    exact this
def ot9 (C : Addr) : TS := fun D σ H => ∃ (a p l N S F e M : Addr) (b : Bool) (o12 : Option V) (v1 v2 v3 x1 x2 x3 : V) (ps ps2 : List (Str × Str)) (qs rs qs2 rs2 : List Str) (x y c : Int), σ = StO a p l N S F e M b o12 none none ∧ PtQ H l v1 v2 v3 ps qs rs ∧ PtQ H M x1 x2 x3 ps2 qs2 rs2 ∧ H a = some (crl x y c) ∧ Cr x y c ∧ c ≤ 850000 ∧
  ∀ (v v' : V) (d d' : PyData) (x' c' : Int) (H' : Hp), Shw H' v d → wrdD d = true → Shw H' v' d' → H' a = some (crl x' y c') → Cr x' y c' → c' ≤ c + 20 → Grw a H H' → D.nx (StO a p l N S F e M b o12 (some v) (some v')) H'
theorem oth9 (R : OF P w K mg base C CO T1) (hr : Room k (A.deeper (envOfC "_law_other" (defScope sOt) s0.heap.objs.size f cdv))) (hk : 8 ≤ k) : PS (OX P w K mg base f cdv A outer s0 H0 E).nox (stO 9) (ot9 C) := by
  refine ps_imp (ps_par (i := 13) (j := 14) rfl scOt.nd rfl rfl (by decide) rfl rfl (pa_cons (pe_fnc R.near hr (by omega) (by rfl) pass0 (pa_cons (pv 0) (pa_cons (pv 2) (pa_cons (pe_tup pa_nil) pa_nil))))
    (pa_cons (pe_fnc R.near hr (by omega) (by rfl) pass0 (pa_cons (pv 0) (pa_cons (pv 7) (pa_cons (pe_tup pa_nil) pa_nil)))) pa_nil)) (by rfl)) ?_
  rintro D σ H ⟨a, p, l, N, S, F, e, M, b, o12, v1, v2, v3, x1, x2, x3, ps, ps2, qs, rs, qs2, rs2, x, y, c, rfl, pq, pm, ha, C1, hc, q⟩
  refine ⟨.ref a, rfl, .ref l, rfl, (by rw [sizeLine_eq]; decide), fun t1 n1 => ?_⟩
  have s1 := same_upd (p := t1) (o := .tup []) n1
  show tNil _ _ _
  unfold tNil
  refine ⟨a, l, .ref t1, v1, v2, v3, ps, qs, rs, [], x, y, c, rfl, s1 _ _ ha, C1, by omega, pq.same s1, ⟨t1, rfl, upd_same⟩, by decide, (fun z hz => nomatch hz), fun v d xa ca H1 sv od wd ha1 C2 e1 g1 => ?_⟩
  have g01 : Grw a H H1 := (Grw.of s1).trans g1
  refine ⟨.ref a, rfl, .ref M, rfl, (by rw [sizeLine_eq]; decide), fun t2 n2 => ?_⟩
  have s2 := same_upd (p := t2) (o := .tup []) n2
  have pm1 := (pm.grow ha g01).same s2
  refine ⟨a, M, .ref t2, x1, x2, x3, ps2, qs2, rs2, [], xa, y, ca, rfl, s2 _ _ ha1, C2, by omega, pm1, ⟨t2, rfl, upd_same⟩, by decide, (fun z hz => nomatch hz), fun v' d' xb cb H2 sv' od' wd' ha2 C3 e2 g2 => ⟨_, _, rfl, ?_⟩⟩
  exact q v v' d d' xb cb H2 (Shw.off (s2 _ _ ha1) g2 od (Shw.same sv s2)) wd sv' ha2 C3 (by omega) (g01.trans ((Grw.of s2).trans g2))
def ot10 : TS := fun D σ H => ∃ (a p l N S F e M : Addr) (b : Bool) (o12 : Option V) (v v' : V) (d d' : PyData) (cs : List (Str × Str)), σ = StO a p l N S F e M b o12 (some v) (some v') ∧ Shw H v d ∧ wrdD d = true ∧ Shw H v' d' ∧ H e = some (.dK (lenK cs)) ∧
  ∀ (u : V) (d2 : PyData) (H' : Hp), Same H H' → Shw H' u d2 → D.nx (StO a p l N S F e M b o12 (some v) (some u)) H'
theorem oth10 (R : OF P w K mg base C CO T1) (hr : Room k (A.deeper (envOfC "_law_other" (defScope sOt) s0.heap.objs.size f cdv))) (hk : 8 ≤ k) : PS (OX P w K mg base f cdv A outer s0 H0 E).nox (stO 10) ot10 := by
  have hu := hu_of hr
  refine ps_imp (ps_if (pt_val (pe_callB call_isi (by rfl) R.B.isinstance (by decide +kernel) (pa_cons (pv 13) (pa_cons (pe_bltn (v := .ty "tuple") (by rfl) R.B.tuple (by decide +kernel) rfl) pa_nil))))
    (pss_one (ps_set (i := 14) scOt.nd rfl (.inl rfl) (pe_callTy call_tuple_of (by rfl) R.B.tuple (by decide +kernel) (pa_cons (pe_lc (own := [("_law_one", 15)]) (g := gName 15) (tt := tYes) rfl scOt.nd (pi_tup (pv 13)) (blkOk_by (N := nOt) (sc := defScope sOt) (by decide +kernel))
        (fun _ _ _ _ _ => pg_name (i := 15) scOt.nd rfl (Or.inl rfl) (Or.inr rfl)) (fun _ _ _ _ _ => pts_nil)
        (fun _ _ _ _ _ => pe_ifExp (pt_val (pe_callB (r := rIsi K) call_isi (by rfl) R.B.isinstance (by decide +kernel) (pa_cons (pv 15) (pa_cons (pe_bltn (v := .ty "str") (by rfl) R.B.str (by decide +kernel) rfl) pa_nil)))) (pe_dget2 hu (pv 6) (pv 15) (pv 15) ⟨rfl, rfl, rfl, rfl⟩) (pv 15))) pa_nil)))) pss_nil) ?_
  rintro D σ H ⟨a, p, l, N, S, F, e, M, b, o12, v, v', d, d', cs, rfl, sv, wd, sv', he, q⟩
  refine ⟨v, rfl, v, .ty "tuple", _, _, isTup d, rfl, .ty _, shw_ty sv, kit_ty (kit_tup d), isTup d, rfl, ?_⟩
  refine ite2 (fun e1 => ?_) (fun e1 => ?_)
  · match d, e1 with
    | .tuple ds, _ =>
      obtain ⟨t, xs, rfl, et, sa⟩ := shw_tup sv
      have ln := ShwAll.len sa
      have few := (wrd_all wd).1
      refine ⟨.ref t, rfl, t, rfl, ⟨_, SqT.of et⟩, fun L nL => ?_⟩
      refine lc_tup (K := K) (a := t) (xs := xs) (fun m H' => Same H H' ∧ ∃ ys, H' L = some (.lst ys) ∧ ShwAll H ys ((ds.take m).map (renD cs))) ⟨same_upd nL, [], upd_same, .nil⟩ (fun m H' _ hP => SqT.of (hP.1 _ _ et)) (fun m x H' hm hP => ?_) (fun H' hP => ?_)
      · obtain ⟨s1, ys, d1, sy⟩ := hP
        obtain ⟨d0, hd, sd⟩ := ShwAll.get sa hm
        have ly := ShwAll.len sy
        simp only [List.length_map, List.length_take] at ly
        have nx : ∀ (y : V) (H4 : Hp), Same H' H4 → Shw H y (renD cs d0) → ∃ acc, H4 L = some (.lst acc) ∧ acc.length < sizeLine ∧ (Same H (upd H4 L (.lst (acc ++ [y]))) ∧ ∃ ys, (upd H4 L (.lst (acc ++ [y]))) L = some (.lst ys) ∧ ShwAll H ys ((ds.take (m + 1)).map (renD cs))) := fun y H4 s4 sy' => by
          refine ⟨ys, s4 _ _ d1, by rw [sizeLine_eq]; omega, fun c o ec => ?_, ys ++ [y], upd_same, ?_⟩
          · rw [upd_ne (ne_of_none ec nL)]
            exact s4 _ _ (s1 _ _ ec)
          · rw [List.take_add_one, hd, List.map_append]
            exact ShwAll.snoc sy sy'
        refine ⟨rfl, x, rfl, x, .ty "str", _, _, isStrD d0, rfl, .ty _, shw_ty (Shw.same sd s1), kit_ty (kit_strD d0), isStrD d0, rfl, ?_⟩
        refine ite2 (fun e2 => ?_) (fun e2 => ?_)
        · match d0, e2 with
          | .str z, _ =>
            cases sd
            have he' := s1 _ _ he
            refine ⟨.ref e, rfl, e, rfl, .inl ⟨_, .inl he'⟩, .str z, rfl, .str z, rfl, _, DGet.k (k := Sum.inr z) he', ?_⟩
            rw [ren_val]
            exact nx _ H' (Same.refl H') (.str _)
        · refine ⟨x, rfl, nx x H' (Same.refl H') ?_⟩
          have er : renD cs d0 = d0 := by
            cases d0 with
            | str z => exact absurd rfl e2
            | _ => rfl
          rw [er]
          exact sd
      · obtain ⟨s1, ys, d1, sy⟩ := hP
        refine ⟨L, ys, rfl, .inl ⟨SqL.of d1, fun u nu => ?_⟩⟩
        have su := same_upd (p := u) (o := .tup ys) nu
        exact q (.ref u) (.tuple ((ds.take xs.length).map (renD cs))) _ (s1.trans su) (.tup upd_same (ShwAll.same sy (s1.trans su)))
  · exact q v' d' H (Same.refl H) sv'
def ot11 (C : Addr) : TS := fun D σ H => ∃ (a p l N S F e M p' : Addr) (u1 u2 u3 x1 x2 x3 : V) (ps : List (Str × Str)) (qs rs : List Str) (v v' : V) (d' : PyData), σ = StO a p l N S F e M true (some (.ref p')) (some v) (some v') ∧ FrameAt C H p' u1 u2 u3 ps qs rs ∧ PtQ H M x1 x2 x3 ps qs rs ∧ Shw H v' d' ∧
  ∀ H', Same H H' → D.nx σ H'
theorem oth11 (R : OF P w K mg base C CO T1) (hr : Room k (A.deeper (envOfC "_law_other" (defScope sOt) s0.heap.objs.size f cdv))) (hk : 8 ≤ k) : PS (OX P w K mg base f cdv A outer s0 H0 E).nox (stO 11) (ot11 C) := by
  refine ps_imp (ps_if (PW.pt (pw_and (pt_val (pv 11)) (pw_and1 (pt_cmpR op_ne (pe_omd (pl := _) R.isV0 R.T.cl hr (by omega) pass0 (pv 12) (pa_cons (pv 14) pa_nil)) (pe_fnc R.wor hr (by omega) (by rfl) pass0 (pa_cons (pv 7) (pa_cons (pv 14) (pa_cons (pe_tup pa_nil) pa_nil)))) (nomark _)))))
    (pss_one ps_never) pss_nil) ?_
  rintro D σ H ⟨a, p, l, N, S, F, e, M, p', u1, u2, u3, x1, x2, x3, ps, qs, rs, v, v', d', rfl, Fr, pq, sv, q⟩
  have l1 := pq.g.l1
  have l2 := pq.g.l2
  have l3 := pq.g.l3
  obtain ⟨dx, t, d2, e4, ob, _⟩ := id Fr.ob
  refine ⟨_, rfl, _, rfl, iteT ?_⟩
  refine ⟨.ref p', rfl, p', dx, _, rfl, ob, lookup_zip_none (by decide +kernel), v', rfl, p', u1, u2, u3, ps, qs, rs, v', d', .ref T1, [], rfl, Fr, sv, ⟨T1, rfl, R.t1 H⟩, own_nil _, (fun z hz => nomatch hz), fun H1 w1 => ?_⟩
  refine ⟨.ref M, rfl, v', rfl, (by rw [sizeLine_eq]; decide), fun t2 n2 => ?_⟩
  have s2 := same_upd (p := t2) (o := .tup []) n2
  have w02 := w1.trans s2
  have pq2 := pq.same w02
  show tNil _ _ _
  unfold tNil
  refine ⟨M, x1, x2, x3, ps, qs, rs, v', d', .ref t2, [], rfl, pq2.hl, pq2.y1, pq2.y2, pq2.y3, Shw.same sv w02, ⟨t2, rfl, upd_same⟩, by omega, by omega, by omega, by decide, fun H2 w2 => ?_⟩
  refine ⟨rfl, _, rfl, ?_⟩
  rw [wor_val pq.g.nd]
  exact iteF' (by simp) (q H2 (w02.trans w2))
def ot12 : TS := fun D σ H => ∃ (a p l N S F e M p' : Addr) (o13 o14 : Option V), σ = StO a p l N S F e M true (some (.ref p')) o13 o14 ∧ ∀ (r : Addr) (H' : Hp), Same H H' → H r = none → H' r = some (.lst [.ref p', .ref M]) → D.rt (.ref r) H'
theorem oth12 : PS (OX P w K mg base f cdv A outer s0 H0 E).nox (stO 12) ot12 := by
  refine ps_imp (ps_ret (pe_ifExp (pt_val (pv 11)) (pe_lst (pa_cons (pv 12) (pa_cons (pv 7) pa_nil))) (pe_lst pa_nil))) ?_
  rintro D σ H ⟨a, p, l, N, S, F, e, M, p', o13, o14, rfl, q⟩
  exact ⟨_, rfl, _, rfl, iteT ⟨_, rfl, _, rfl, by rw [sizeLine_eq]; show 2 ≤ 16777216; decide, fun r nr => q r _ (same_upd nr) nr upd_same⟩⟩
end
end K02

set_option autoImplicit false
set_option maxRecDepth 100000
set_option maxHeartbeats 4000000
/-! a frame with other names: the def -/
namespace K02
open PySem PySem.Spec PyProof.Rows L2 KX
theorem zip_nm {ws fs gs : List Str} (wf : ∀ z ∈ fs, z ∈ ws) (wg : ∀ z ∈ gs, z ∈ W18) : ∀ c ∈ fs.zip gs, c.1 ∈ ws ∧ c.2 ∈ W18 := fun c hc => by
  have := List.of_mem_zip hc
  exact ⟨wf _ this.1, wg _ this.2⟩
section
variable {P : Program} {w : World} {K : PySem.W.Frag} {mg : Str → Option Value} {base : Heap}
theorem ok_oth {f C CO T1 : Addr} {fd : FuncData} (F : Fun K "_law_other" "_law_other" sOt f fd) (R : OF P w K mg base C CO T1) : FnOk P w K mg base CX0 9 f fd ["_law_creel_here", "_law_frame_here", "_law_parts_here"] (spChg C 50) := by
  refine F.ok scOt (fun vs H Q E h => ?_) (fun cdv A outer s H vs Q E hr h => ?_)
  · obtain ⟨a, p, l, v1, v2, v3, y1, y2, y3, ps, qs, rs, x, y, c, rfl, _⟩ := h
    rfl
  · obtain ⟨a, p, l, v1, v2, v3, y1, y2, y3, ps, qs, rs, x, y, c, rfl, ha, C1, hc, la, Fr, pq, q⟩ := h
    refine ⟨_, PSs.nox (pss_cons (oth0 (E := E) R hr (by omega)) (pss_cons (oth1 (E := E) R hr (by omega)) (pss_cons (oth2 (E := E) R hr (by omega)) (pss_cons (oth3 (E := E) R hr (by omega)) (pss_cons (oth4 (E := E) R hr (by omega)) (pss_cons (oth5 (E := E) R hr (by omega)) (pss_cons (oth6 (E := E) R hr (by omega))
      (pss_cons (oth7 (E := E) R hr (by omega)) (pss_cons (oth8 (E := E) R hr (by omega)) (pss_cons (oth9 (E := E) R hr (by omega)) (pss_cons (oth10 (E := E) R hr (by omega)) (pss_cons (oth11 (E := E) R hr (by omega)) (pss_one (oth12 (E := E))))))))))))))), ?_⟩
    have wl := pq.g.wlen
    have ww := GoodQ.words pq.g.w
    refine ⟨a, p, l, y1, y2, y3, ps, qs, rs, rfl, pq, fun N H1 s1 hN => ?_⟩
    refine ⟨a, p, l, N, x, y, c, wordsOf ps qs rs, rfl, s1 _ _ ha, C1, by omega, hN, wl, fun S fs ls x2 c2 H2 lf pm ha2 C2 hc2 g2 Sa hS => ?_⟩
    have Na := strs_ne hN (s1 _ _ ha)
    have fw : ∀ z ∈ fs, z ∈ W18 := fun z hz => ww z (perm_mem pm z hz)
    refine ⟨a, p, l, N, S, x2, y, c2, fs, rfl, ha2, C2, by omega, hS, lf, fun F gs x3 c3 H3 lg wg ha3 C3 hc3 g3 Fa hF => ?_⟩
    have hS3 := g3 _ _ Sa hS
    refine ⟨a, p, l, N, S, F, x3, y, c3, fs, gs, rfl, ha3, C3, by omega, hS3, lf, fw, hF, lg, wg, fun F' gs' x4 c4 H4 lg' wg' ha4 C4 hc4 g4 hF' => ?_⟩
    have hS4 := g4 _ _ Sa hS3
    refine ⟨a, p, l, N, S, F', fs, gs', rfl, hS4, hF', lg', lf, perm_nd pm pq.g.nd, fun e H5 s5 he => ?_⟩
    have g15 : Grw a H1 H5 := g2.trans (g3.trans (g4.trans (Grw.of s5)))
    have g05 : Grw a H H5 := (Grw.of s1).trans g15
    have ha5 := s5 _ _ ha4
    have S5 : OtS l e y1 y2 y3 ps qs rs (fs.zip gs') H5 := ⟨pq.grow ha g05, he, by rw [List.length_zip]; omega, zip_nm (perm_mem pm) wg'⟩
    have Fr5 := Fr.grow ha g05
    have hN5 := g15 _ _ Na hN
    generalize fs.zip gs' = cs at S5
    refine ⟨a, p, l, N, S, F', e, y1, y2, y3, ps, qs, rs, cs, rfl, S5, fun M t H6 s6 hM ar => ?_⟩
    refine ⟨a, p, l, N, S, F', e, M, t, y1, y2, y3, ps, qs, rs, cs, rfl, S5.same s6, hM, ar, fun L x1 x2' x3' H7 s7 pL => ?_⟩
    have s57 := s6.trans s7
    have ha7 := s57 _ _ ha5
    have La : L ≠ a := fun ee => by
      have h1 := pL.hl
      rw [ee, ha7] at h1
      obtain ⟨b, xs, e1, _⟩ := shw_tup pL.y1
      injection h1 with h1
      injection h1 with h1
      injection h1 with h1
      rw [e1] at h1
      cases h1
    refine ⟨a, p, l, N, S, F', e, L, cs, wordsOf ps qs rs, rfl, s57 _ _ hN5, wl, (S5.same s57).he, fun H8 s8 => ?_⟩
    have s58 := s57.trans s8
    have ha8 := s58 _ _ ha5
    refine ⟨a, p, l, N, S, F', e, L, v1, v2, v3, y1, y2, y3, ps, qs, rs, cs, rfl, Fr5.same s58, S5.same s58, fun z r H9 s9 nr hr9 => ?_, fun z p' u1 u2 u3 H9 s9 Fr9 => ?_⟩
    · have s59 := s58.trans s9
      have ra : r ≠ a := fun ee => by rw [ee, ha8] at nr; cases nr
      exact q r p l v1 v2 v3 y1 y2 y3 ps qs rs x4 c4 H9 hr9 ra la (Fr5.same s59) (S5.same s59).pq (s59 _ _ ha5) C4 (by omega) (g05.trans (Grw.of s59))
    · have gq := GoodQ.ren pq.g (fun c hc => (S5.nm c hc).2) z
      have s59 := s58.trans s9
      have s79 := s8.trans s9
      have pq9 := (pL.same s79).q gq
      refine ⟨a, p, l, N, S, F', e, L, true, some (.ref p'), y1, y2, y3, x1, x2', x3', ps, _, qs, rs, _, _, x4, y, c4, rfl, (S5.same s59).pq, pq9, s59 _ _ ha5, C4, by omega, fun v v' d d' x5 c5 H10 sv wd sv' ha10 C5 hc5 g10 => ?_⟩
      have ha9 := s59 _ _ ha5
      have he10 : H10 e = some (.dK (lenK cs)) := g10 _ _ (fun ee => by
        have h1 := (S5.same s59).he
        rw [ee, ha9] at h1
        cases h1) (S5.same s59).he
      refine ⟨a, p, l, N, S, F', e, L, true, some (.ref p'), v, v', d, d', cs, rfl, sv, wd, sv', he10, fun u d2 H11 s11 su => ?_⟩
      have pq11 := (pq9.grow ha9 g10).same s11
      have Fr11 := (Fr9.grow ha9 g10).same s11
      refine ⟨a, p, l, N, S, F', e, L, p', u1, u2, u3, x1, x2', x3', _, _, _, v, u, d2, rfl, Fr11, pq11, su, fun H12 s12 => ?_⟩
      have ha12 := s12 _ _ (s11 _ _ ha10)
      refine ⟨a, p, l, N, S, F', e, L, p', _, _, rfl, fun r H13 s13 nr hr13 => ?_⟩
      have ra : r ≠ a := fun ee => by rw [ee, ha12] at nr; cases nr
      exact q r p' L u1 u2 u3 x1 x2' x3' _ _ _ x5 c5 H13 hr13 ra La (Fr11.same (s12.trans s13)) (pq11.same (s12.trans s13)) (s13 _ _ ha12) C5 (by omega) (g05.trans ((Grw.of s59).trans (g10.trans (Grw.of (s11.trans (s12.trans s13))))))
end
end K02

set_option autoImplicit false
set_option maxRecDepth 100000
set_option maxHeartbeats 4000000
/-! drawn changes of a drawn frame: what stays -/
namespace K02
open PySem PySem.Spec PyProof.Rows L2 KX
section
variable {X : Cx} {C : Addr} {j : Nat}
theorem OM.eq' {sp : Sp} (O : OM X.prog X.w X.K X.mg X.base CX0 1 C "__eq__" ["self", "other"] sp) (hr : Room j X.A) (hk : 1 ≤ j) : OpR X (compareOp .Eq) (rEqOwn X.K C sp E0 false) := by
  obtain ⟨g, fd, D, _, F, hb⟩ := O.ex
  exact op_eqOwn D (FnOk.r F hb) (hr.mono hk) pass0
theorem OM.ne' {sp : Sp} (O : OM X.prog X.w X.K X.mg X.base CX0 1 C "__eq__" ["self", "other"] sp) (hm : PySem.W.mroIn X.K C (.type "object") = some true) (hne : PySem.W.findIn X.K (.ref C) "__ne__" = some (some (.builtin "object.__ne__"))) (hr : Room j X.A) (hk : 2 ≤ j) : OpR X (compareOp .NotEq) (rEqOwn X.K C sp E0 true) := by
  obtain ⟨g, fd, D, _, F, hb⟩ := O.ex
  exact op_neOwn D hm hne (FnOk.r F hb) (hr.mono hk) pass0
end
/-- what is no list stays -/
def NoL (H H' : Hp) : Prop := ∀ b o, (∀ xs, o ≠ .lst xs) → H b = some o → H' b = some o
theorem FrameAt.nol {C p : Addr} {H H' : Hp} {v1 v2 v3 : V} {ps : List (Str × Str)} {qs rs : List Str} (f : FrameAt C H p v1 v2 v3 ps qs rs) (g : NoL H H') : FrameAt C H' p v1 v2 v3 ps qs rs := by
  obtain ⟨⟨dx, t, d, e, h1, h2, h3, h4⟩, h5, h6, h7⟩ := f
  have gt : ∀ b ys, H b = some (.tup ys) → H' b = some (.tup ys) := fun b ys e => g _ _ (fun _ z => nomatch z) e
  exact ⟨⟨dx, t, d, e, g _ _ (fun _ z => nomatch z) h1, gt _ _ h2, g _ _ (fun _ z => nomatch z) h3, g _ _ (fun _ z => nomatch z) h4⟩, arr_keepT gt h5, txt_keepT gt h6, txt_keepT gt h7⟩
theorem PtQ.nol {H H' : Hp} {l : Addr} {v1 v2 v3 : V} {ps : List (Str × Str)} {qs rs : List Str} (p : PtQ H l v1 v2 v3 ps qs rs) (g : NoL H H') (hl : H' l = some (.lst [v1, v2, v3])) : PtQ H' l v1 v2 v3 ps qs rs := by
  have gt : ∀ b ys, H b = some (.tup ys) → H' b = some (.tup ys) := fun b ys e => g _ _ (fun _ z => nomatch z) e
  exact ⟨hl, arr_keepT gt p.y1, txt_keepT gt p.y2, txt_keepT gt p.y3, p.g⟩
/-- all but two lists stays -/
def Kp2 (a E : Addr) (H H' : Hp) : Prop := ∀ b o, b ≠ a → b ≠ E → H b = some o → H' b = some o
/-- an elder frame, its parts and its text -/
def Eld (C : Addr) (H : Hp) (a E : Addr) (e : V) : Prop := ∃ (t p l : Addr) (u1 u2 u3 v1 v2 v3 : V) (ps : List (Str × Str)) (qs rs : List Str), e = .ref t ∧ H t = some (.tup [.ref p, .ref l, .str (frT ps qs rs)]) ∧ FrameAt C H p u1 u2 u3 ps qs rs ∧ PtQ H l v1 v2 v3 ps qs rs ∧ l ≠ a ∧ l ≠ E
structure RI (C : Addr) (H : Hp) (a E p l : Addr) (es : List V) (u1 u2 u3 v1 v2 v3 : V) (ps : List (Str × Str)) (qs rs : List Str) : Prop where
  hE : H E = some (.lst es)
  eld : ∀ e ∈ es, Eld C H a E e
  Fr : FrameAt C H p u1 u2 u3 ps qs rs
  pq : PtQ H l v1 v2 v3 ps qs rs
  la : l ≠ a
  lE : l ≠ E
  Ea : E ≠ a
section
variable {C a E p l : Addr} {H H' : Hp} {u1 u2 u3 v1 v2 v3 : V} {ps : List (Str × Str)} {qs rs : List Str} {es xs ys : List V} {e : V}
theorem Kp2.nol (k : Kp2 a E H H') (ha : H a = some (.lst xs)) (hE : H E = some (.lst ys)) : NoL H H' := fun b o n e => k b o (fun z => by rw [z, ha] at e; cases e; exact n _ rfl) (fun z => by rw [z, hE] at e; cases e; exact n _ rfl) e
theorem Eld.kp (h : Eld C H a E e) (k : Kp2 a E H H') (ha : H a = some (.lst xs)) (hE : H E = some (.lst ys)) : Eld C H' a E e := by
  obtain ⟨t, p, l, u1, u2, u3, v1, v2, v3, ps, qs, rs, rfl, ht, Fr, pq, la, lE⟩ := h
  have g := k.nol ha hE
  exact ⟨t, p, l, u1, u2, u3, v1, v2, v3, ps, qs, rs, rfl, g _ _ (fun _ z => nomatch z) ht, Fr.nol g, pq.nol g (k _ _ la lE pq.hl), la, lE⟩
theorem Grw.kp (g : Grw a H H') : Kp2 a E H H' := fun b o n _ e => g b o n e
theorem RI.grow (r : RI C H a E p l es u1 u2 u3 v1 v2 v3 ps qs rs) (g : Grw a H H') (ha : H a = some (.lst xs)) : RI C H' a E p l es u1 u2 u3 v1 v2 v3 ps qs rs := by
  have k : Kp2 a E H H' := g.kp
  have n := k.nol ha r.hE
  exact ⟨g _ _ r.Ea r.hE, fun e he => (r.eld e he).kp k ha r.hE, r.Fr.nol n, r.pq.nol n (k _ _ r.la r.lE r.pq.hl), r.la, r.lE, r.Ea⟩
theorem RI.same (r : RI C H a E p l es u1 u2 u3 v1 v2 v3 ps qs rs) (s : Same H H') (ha : H a = some (.lst xs)) : RI C H' a E p l es u1 u2 u3 v1 v2 v3 ps qs rs := r.grow (Grw.of s) ha
theorem GoodQ.txt (g : GoodQ ps qs rs) : short 8 (ps.map (·.1)) ∧ short 8 (ps.map (·.2)) ∧ short 8 qs ∧ short 8 rs := by
  refine ⟨fun z hz => ?_, fun z hz => ?_, fun z hz => W18_ln z (g.w.m2 z hz), fun z hz => W18_ln z (g.w.m3 z hz)⟩
  · obtain ⟨c, hc, rfl⟩ := List.mem_map.mp hz
    exact W18_ln _ (g.w.m1 c hc).1
  · obtain ⟨c, hc, rfl⟩ := List.mem_map.mp hz
    exact W18_ln _ (g.w.m1 c hc).2
theorem PtQ.frame {Q : VK} {X : XK} (pq : PtQ H l v1 v2 v3 ps qs rs) (q : ∀ (p : Addr) (H' : Hp), Same H H' → FrameAt C H' p v1 v2 v3 ps qs rs → Q (.ref p) H') : spFrame C [.ref l] H Q X := by
  have l1 := pq.g.l1
  have l2 := pq.g.l2
  have l3 := pq.g.l3
  refine ⟨l, v1, v2, v3, _, _, _, rfl, pq.hl, pq.y1, txts_shw pq.y2, txts_shw pq.y3, gd_prs18 (by omega) pq.g.w.m1, gd_strs18 (by omega) pq.g.w.m2, gd_strs18 (by omega) pq.g.w.m3, pq.g.frame, fun p H' s f => ?_⟩
  rw [prs_back, strs_back, strs_back] at f
  exact q p H' s f
def lsD (ps : List (Str × Str)) (qs rs : List Str) : PyData := .list [.tuple (ps.map prD), .tuple (qs.map PyData.str), .tuple (rs.map PyData.str)]
theorem ls_shaped (g : GoodQ ps qs rs) : SeqAt.shaped (lsD ps qs rs) = true := by
  have o := g.okF
  have z := fr_shaped o.1 o.2.1 o.2.2.1 o.2.2.2
  unfold SeqAt.shaped at z ⊢
  exact z
theorem PtQ.dp {K : PySem.W.Frag} (pq : PtQ H l v1 v2 v3 ps qs rs) : Dp K H (.ref l) (lsD ps qs rs) :=
  .lst (SqL.of pq.hl) (ShwAll.dp (SeqAt.canLay_of_shaped (ls_shaped pq.g)) (.cons pq.y1 (.cons (txts_shw pq.y2) (.cons (txts_shw pq.y3) .nil))))
end
end K02

set_option autoImplicit false
set_option maxRecDepth 100000
set_option maxHeartbeats 4000000
/-! drawn changes of a drawn frame: the loops -/
namespace K02
open PySem PySem.Spec PyProof.Rows L2 KX
abbrev sRt : Stmt := topS 49
abbrev nRt : List Str := ["_law_creel_here", "_law_parts_here", "_law_frame_here", "_law_elder", "_law_turn", "_law_way", "_law_told", "_law_one", "_law_row", "_law_text"]
theorem scRt : FnScope nRt ["_law_creel_here"] (defScope sRt) := ⟨rfl, rfl, rfl, by decide +kernel, rfl, by decide +kernel, by decide +kernel⟩
def stR (i : Nat) : Stmt := (defBody sRt).getD i (.Pass ⟨0, 0, 0, 0⟩)
abbrev RX (P : Program) (w : World) (K : PySem.W.Frag) (mg : Str → Option Value) (base : Heap) (f : Addr) (cdv : Value) (A : Around) (outer : List Env) (s0 : Shared) (H0 : Hp) (E : XK) : Cx := cxOf CX0 P w K mg base nRt "_law_right" (defScope sRt) f cdv A outer s0 H0 E
structure RF (P : Program) (w : World) (K : PySem.W.Frag) (mg : Str → Option Value) (base : Heap) (C : Addr) : Prop where
  T : FrTxt K mg C
  B : Free mg
  fish : Fnc P w K mg base CX0 1 "_law_fish" ["_law_creel_here", "_law_total"] spFish
  pts : Fnc P w K mg base CX0 3 "_law_parts" ["_law_creel_here"] spPts
  frame : Fnc P w K mg base CX0 7 "_law_frame" ["_law_parts_here"] (spFrame C)
  more : Fnc P w K mg base CX0 9 "_law_more" ["_law_creel_here", "_law_frame_here", "_law_parts_here"] (spChg C 20)
  oth : Fnc P w K mg base CX0 9 "_law_other" ["_law_creel_here", "_law_frame_here", "_law_parts_here"] (spChg C 50)
  tr : FncG P w K mg base 9 "_law_terms_right" ["_law_creel_here", "_law_frame_here", "_law_parts_here"] (spTR C)
  eq : OM P w K mg base CX0 1 C "__eq__" ["self", "other"] (spEq C)
  str : OM P w K mg base CX0 3 C "__str__" ["self"] (spStr C)
  mr : PySem.W.mroIn K C (.type "object") = some true
  ne : PySem.W.findIn K (.ref C) "__ne__" = some (some (.builtin "object.__ne__"))
  nfC : PySem.W.notFirst K C (.ref C) = true
abbrev StW (a l p E : Addr) (o4 o5 o6 o7 o8 o9 : Option V) : L2.St := [some (.ref a), some (.ref l), some (.ref p), some (.ref E), o4, o5, o6, o7, o8, o9]
section
variable {P : Program} {w : World} {K : PySem.W.Frag} {mg : Str → Option Value} {base : Heap} {C f : Addr} {cdv : Value} {A : Around} {outer : List Env} {s0 : Shared} {H0 : Hp} {E : XK} {k : Nat}
def rt0 : TS := fun D σ H => ∃ (a : Addr) (x y c : Int), σ = [some (.ref a), none, none, none, none, none, none, none, none, none] ∧ H a = some (crl x y c) ∧ Cr x y c ∧ c ≤ 600000 ∧
  ∀ (l : Addr) (v1 v2 v3 : V) (ps : List (Str × Str)) (qs rs : List Str) (x' c' : Int) (H' : Hp), PtQ H' l v1 v2 v3 ps qs rs → l ≠ a → H' a = some (crl x' y c') → Cr x' y c' → c' ≤ c + 20 → Grw a H H' → D.nx [some (.ref a), some (.ref l), none, none, none, none, none, none, none, none] H'
theorem rgt0 (R : RF P w K mg base C) (hr : Room k (A.deeper (envOfC "_law_right" (defScope sRt) s0.heap.objs.size f cdv))) (hk : 9 ≤ k) : PS (RX P w K mg base f cdv A outer s0 H0 E).nox (stR 0) rt0 := by
  refine ps_imp (ps_set (i := 1) scRt.nd rfl (.inl rfl) (pe_fnc R.pts hr (by omega) (by rfl) pass0 (pa_cons (pv 0) pa_nil))) ?_
  rintro D σ H ⟨a, x, y, c, rfl, ha, C1, hc, q⟩
  exact ⟨.ref a, rfl, a, x, y, c, rfl, ha, C1, by omega, fun l v1 v2 v3 ps qs rs x' c' H' g y1 y2 y3 C' e' ha' gr la hl => q l v1 v2 v3 ps qs rs x' c' H' ⟨hl, y1, y2, y3, g.q⟩ la ha' C' e' gr⟩
def rt1 (C : Addr) : TS := fun D σ H => ∃ (a l : Addr) (x y c : Int) (v1 v2 v3 : V) (ps : List (Str × Str)) (qs rs : List Str), σ = [some (.ref a), some (.ref l), none, none, none, none, none, none, none, none] ∧ H a = some (crl x y c) ∧ PtQ H l v1 v2 v3 ps qs rs ∧ l ≠ a ∧
  ∀ (p E : Addr) (u1 u2 u3 : V) (H' : Hp), Same H H' → H E = none → RI C H' a E p l [] u1 u2 u3 v1 v2 v3 ps qs rs → D.nx (StW a l p E none none none none none none) H'
theorem rgt1 (R : RF P w K mg base C) (hr : Room k (A.deeper (envOfC "_law_right" (defScope sRt) s0.heap.objs.size f cdv))) (hk : 9 ≤ k) : PS (RX P w K mg base f cdv A outer s0 H0 E).nox (stR 1) (rt1 C) := by
  refine ps_imp (ps_par (i := 2) (j := 3) rfl scRt.nd rfl rfl (by decide) rfl rfl (pa_cons (pe_fnc R.frame hr (by omega) (by rfl) pass0 (pa_cons (pv 1) pa_nil)) (pa_cons (pe_lst pa_nil) pa_nil)) (by rfl)) ?_
  rintro D σ H ⟨a, l, x, y, c, v1, v2, v3, ps, qs, rs, rfl, ha, pq, la, q⟩
  refine ⟨.ref l, rfl, ?_⟩
  show tNil _ _ _
  unfold tNil
  refine pq.frame (C := C) fun p H1 s1 fr => ⟨by rw [sizeLine_eq]; decide, fun E nE => ⟨_, _, rfl, ?_⟩⟩
  have sE := same_upd (p := E) (o := .lst []) nE
  have s := s1.trans sE
  exact q p E v1 v2 v3 _ s (none_back s1 nE) ⟨upd_same, (fun e he => nomatch he), fr.same sE, pq.same s, la, fun z => (by rw [← z, s1 _ _ pq.hl] at nE; cases nE), fun z => (by rw [z, s1 _ _ ha] at nE; cases nE)⟩
def rt2 (C : Addr) : TS := fun D σ H => ∃ (a l p E : Addr) (x y c : Int) (u1 u2 u3 v1 v2 v3 : V) (ps : List (Str × Str)) (qs rs : List Str), σ = StW a l p E none none none none none none ∧ H a = some (crl x y c) ∧ Cr x y c ∧ c ≤ 650000 ∧ RI C H a E p l [] u1 u2 u3 v1 v2 v3 ps qs rs ∧
  ∀ (l' p' : Addr) (es : List V) (u1 u2 u3 v1 v2 v3 : V) (ps : List (Str × Str)) (qs rs : List Str) (o4 o5 o6 : Option V) (x' c' : Int) (H' : Hp), es.length ≤ 5 → RI C H' a E p' l' es u1 u2 u3 v1 v2 v3 ps qs rs → H' a = some (crl x' y c') → Cr x' y c' → c' ≤ c + 2000 → Kp2 a E H H' → D.nx (StW a l' p' E o4 o5 o6 none none none) H'
theorem Kp2.trans {a E : Addr} {H1 H2 H3 : Hp} (s : Kp2 a E H1 H2) (t : Kp2 a E H2 H3) : Kp2 a E H1 H3 := fun b o n m e => t b o n m (s b o n m e)
theorem chg_mono {C : Addr} {vs : List V} {H : Hp} {Q : VK} {E E' : XK} (h : spChg C 50 vs H Q E) : spChg C 20 vs H Q E' := by
  obtain ⟨a, p, l, v1, v2, v3, y1, y2, y3, ps, qs, rs, x, y, c, e, ha, C1, hc, la, Fr, pq, q⟩ := h
  exact ⟨a, p, l, v1, v2, v3, y1, y2, y3, ps, qs, rs, x, y, c, e, ha, C1, hc, la, Fr, pq, fun r p' l' u1 u2 u3 z1 z2 z3 ps' qs' rs' x' c' H' h1 h2 h3 h4 h5 h6 h7 h8 h9 => q r p' l' u1 u2 u3 z1 z2 z3 ps' qs' rs' x' c' H' h1 h2 h3 h4 h5 h6 h7 (by omega) h9⟩
theorem chg_of {C : Addr} {n : Int} {vs : List V} {H : Hp} {Q : VK} {E : XK} (h : spChg C n vs H Q E) : spChg C n vs H Q E := h
theorem ite_imp {b : Bool} {A B : Prop} (i : B → A) (h : B) : if b = true then A else B := by
  cases b
  · exact h
  · exact i h
theorem last3 {es : List V} {v v1 v2 v3 : V} (h : es ++ [v] = [v1, v2, v3]) : v3 = v := by
  have := congrArg List.getLast? h
  simp at this
  exact this.symm
theorem rgt2 (R : RF P w K mg base C) (hG : (A.deeper (envOfC "_law_right" (defScope sRt) s0.heap.objs.size f cdv)).guards = some []) (hr : Room k (A.deeper (envOfC "_law_right" (defScope sRt) s0.heap.objs.size f cdv))) (hk : 9 ≤ k) : PS (RX P w K mg base f cdv A outer s0 H0 E).nox (stR 2) (rt2 C) := by
  have hu : (A.deeper (envOfC "_law_right" (defScope sRt) s0.heap.objs.size f cdv)).units < cLine := by have := hu_of hr; omega
  refine ps_imp (ps_for PassesOwn.never rfl (pi_range1 (by rfl) R.B.range (pa_cons (pe_op op_add pe_int (pe_fnc R.fish hr (by omega) (by rfl) pass0 (pa_cons (pv 0) (pa_cons pe_int pa_nil)))) pa_nil)) (pg_name (i := 4) scRt.nd rfl (Or.inl rfl))
    (pss_cons (ps_expr (pe_bm PySem.F.plainAttrs_list PySem.F.slot_list_append PySem.F.type_list_append mt_append (pv 3) (pa_cons (pe_tup (pa_cons (pv 2) (pa_cons (pv 1) (pa_cons (pe_callTy (R.str.str hr (by omega) pass0) (by rfl) R.B.str (by decide +kernel) (pa_cons (pv 2) pa_nil)) pa_nil)))) pa_nil)))
    (pss_cons (ps_set (i := 5) scRt.nd rfl (.inl rfl) (pe_fnc R.fish hr (by omega) (by rfl) pass0 (pa_cons (pv 0) (pa_cons pe_int pa_nil))))
    (pss_cons (ps_set (i := 6) scRt.nd rfl (.inl rfl) (pe_ifExp (pt_cmpR op_eq (pv 5) pe_int (nomark _)) (pe_fnc R.more hr (by omega) (by rfl) pass0 (pa_cons (pv 0) (pa_cons (pv 2) (pa_cons (pv 1) pa_nil)))) (pe_fnc R.oth hr (by omega) (by rfl) pass0 (pa_cons (pv 0) (pa_cons (pv 2) (pa_cons (pv 1) pa_nil))))))
    (pss_cons (ps_if (pt_cmpR (op_eqLen hu) (pv 6) (pe_lst pa_nil) (nomark _)) (pss_one (ps_ret pe_bl)) pss_nil)
    (pss_cons (ps_asg (pv 6) (pg_lst rfl (pgs_cons (pg_name (i := 2) scRt.nd rfl (Or.inl rfl)) (pgs_cons (pg_name (i := 1) scRt.nd rfl (Or.inl rfl)) pgs_nil))))
    (pss_one (ps_if (PW.pt (pw_or (pt_cmpR (R.eq.ne' R.mr R.ne hr (by omega)) (pv 2) (pe_fnc R.frame hr (by omega) (by rfl) pass0 (pa_cons (pv 1) pa_nil)) (nomark _)) (pw_or1 (pt_not (pt_val (pe_fncG R.tr hG hr (by omega) (by rfl) (pa_cons (pv 0) (pa_cons (pv 2) (pa_cons (pv 1) pa_nil)))))))))
      (pss_one (ps_ret pe_bl)) pss_nil)))))))) ?_
  rintro D σ H ⟨a, l, p, E, x, y, c, u1, u2, u3, v1, v2, v3, ps, qs, rs, rfl, ha, C1, hc, ri, q⟩
  refine ⟨.ref a, rfl, a, x, y, c, 4, rfl, ha, C1, by omega, by omega, by omega, fun r x1 c1 r0 r3 C2 e1 => ?_⟩
  have g0 : Grw a H (upd H a (crl x1 y c1)) := Grw.upd
  have ri1 := ri.grow g0 ha
  have er : r = ((r.toNat : Nat) : Int) := (Int.toNat_of_nonneg r0).symm
  refine ⟨_, _, rfl, rfl, ((2 + r.toNat : Nat) : Int), by rw [er]; rfl, by omega, by omega, ?_⟩
  refine for_range (fun m σ' H' => ∃ (l' p' : Addr) (es : List V) (u1 u2 u3 v1 v2 v3 : V) (ps : List (Str × Str)) (qs rs : List Str) (o4 o5 o6 : Option V) (x' c' : Int), σ' = StW a l' p' E o4 o5 o6 none none none ∧ es.length = m ∧ RI C H' a E p' l' es u1 u2 u3 v1 v2 v3 ps qs rs ∧ H' a = some (crl x' y c') ∧ Cr x' y c' ∧ c' ≤ c + 1 + 300 * m ∧ Kp2 a E H H')
    ⟨l, p, [], u1, u2, u3, v1, v2, v3, ps, qs, rs, none, none, none, x1, c1, rfl, rfl, ri1, upd_same, C2, by omega, g0.kp⟩ (fun m σ' H1 hm hP => ?_) (fun σ' H1 hP => ?_)
  · obtain ⟨l, p, es, u1, u2, u3, v1, v2, v3, ps, qs, rs, o4, o5, o6, x2, c2, rfl, le, ri, ha1, C3, hc2, kp⟩ := hP
    have hm6 : m < 6 := by omega
    obtain ⟨t1, t2, t3, t4⟩ := ri.pq.g.txt
    have l1 := ri.pq.g.l1
    have l2 := ri.pq.g.l2
    have l3 := ri.pq.g.l3
    obtain ⟨dx, _, _, _, ob, _⟩ := id ri.Fr.ob
    -- the elder one is kept
    refine ⟨.ref E, rfl, .inl ⟨rfl, es, SqL.of ri.hE⟩, .ref p, rfl, .ref l, rfl, .ref p, rfl, p, dx, _, rfl, ob, p, u1, u2, u3, ps, qs, rs, rfl, ri.Fr, by omega, by omega, by omega, t1, t2, t3, t4, fun H2 s2 => ⟨_, rfl, ?_⟩⟩
    refine ⟨by rw [sizeLine_eq]; show 3 ≤ 16777216; decide, fun t nt => ?_⟩
    have st := same_upd (p := t) (o := .tup [.ref p, .ref l, .str (frT ps qs rs)]) nt
    have ht : (upd H2 t (.tup [.ref p, .ref l, .str (frT ps qs rs)])) t = some (.tup [.ref p, .ref l, .str (frT ps qs rs)]) := upd_same
    have s3 := s2.trans st
    generalize upd H2 t (.tup [.ref p, .ref l, .str (frT ps qs rs)]) = H3 at st ht s3
    have ri3 := ri.same s3 ha1
    have ha3 := s3 _ _ ha1
    refine ⟨E, es, .ref t, rfl, rfl, ri3.hE, by rw [sizeLine_eq]; omega, ?_⟩
    have k4 : Kp2 a E H3 (upd H3 E (.lst (es ++ [.ref t]))) := fun b o _ n e => by rw [upd_ne n]; exact e
    have n4 := k4.nol ha3 ri3.hE
    have ha4 : (upd H3 E (.lst (es ++ [.ref t]))) a = some (crl x2 y c2) := by rw [upd_ne ri3.Ea.symm]; exact ha3
    have ri4 : RI C (upd H3 E (.lst (es ++ [.ref t]))) a E p l (es ++ [.ref t]) u1 u2 u3 v1 v2 v3 ps qs rs := by
      refine ⟨upd_same, fun e he => ?_, ri3.Fr.nol n4, ri3.pq.nol n4 (by rw [upd_ne ri3.lE]; exact ri3.pq.hl), ri3.la, ri3.lE, ri3.Ea⟩
      rcases List.mem_append.mp he with h | h
      · exact (ri3.eld e h).kp k4 ha3 ri3.hE
      · rw [List.mem_singleton] at h
        subst h
        exact Eld.kp ⟨t, p, l, u1, u2, u3, v1, v2, v3, ps, qs, rs, rfl, ht, ri3.Fr, ri3.pq, ri3.la, ri3.lE⟩ k4 ha3 ri3.hE
    have kp4 := kp.trans ((Grw.of s3).kp.trans k4)
    generalize upd H3 E (.lst (es ++ [.ref t])) = H4 at k4 n4 ha4 ri4 kp4
    -- the way
    refine ⟨.ref a, rfl, a, x2, y, c2, 3, rfl, ha4, C3, by omega, by omega, by omega, fun r5 x5 c5 r50 r53 C5 e5 => ?_⟩
    have g5 : Grw a H4 (upd H4 a (crl x5 y c5)) := Grw.upd
    have ri5 := ri4.grow g5 ha4
    have ha5 : (upd H4 a (crl x5 y c5)) a = some (crl x5 y c5) := upd_same
    have kp5 := kp4.trans g5.kp
    generalize upd H4 a (crl x5 y c5) = H5 at g5 ri5 ha5 kp5
    refine ⟨.int r5, rfl, rfl, _, rfl, ite2 (fun _ => ?_) (fun _ => ?_)⟩
    all_goals
      refine ⟨.ref a, rfl, .ref p, rfl, .ref l, rfl, ?_⟩
      show tNil _ _ _
      unfold tNil
      refine ⟨a, p, l, u1, u2, u3, v1, v2, v3, ps, qs, rs, x5, y, c5, rfl, ha5, C5, by omega, ri5.la, ri5.Fr, ri5.pq, fun r' p' l' z1 z2 z3 w1 w2 w3 ps' qs' rs' x6 c6 H6 hr6 ra' la' Fr6 pq6 ha6 C6 hc6 g6 => ?_⟩
      have ri6 := ri5.grow g6 ha5
      have lE' : l' ≠ E := fun ee => by
        have h1 := pq6.hl
        rw [ee, ri6.hE] at h1
        injection h1 with h1
        injection h1 with h1
        have e3 := last3 h1
        obtain ⟨b, eb, hb⟩ := pq6.y3
        rw [e3] at eb
        injection eb with eb
        subst eb
        obtain ⟨t', _, _, _, _, _, _, _, _, _, _, _, et, ht', _⟩ := ri6.eld (.ref t) (List.mem_append_right _ (List.mem_singleton.mpr rfl))
        injection et with et
        subst et
        rw [hb] at ht'
        injection ht' with ht'
        injection ht' with ht'
        cases rs' with
        | nil => cases ht'
        | cons z zs =>
          injection ht' with ht'
          cases ht'
      have ri7 : RI C H6 a E p' l' (es ++ [.ref t]) z1 z2 z3 w1 w2 w3 ps' qs' rs' := ⟨ri6.hE, ri6.eld, Fr6, pq6, la', lE', ri6.Ea⟩
      have kp6 := kp5.trans g6.kp
      refine ⟨.ref r', rfl, by rw [sizeLine_eq]; decide, fun Z nZ => ⟨r', Z, [.ref p', .ref l'], [], rfl, rfl, same_upd nZ _ _ hr6, upd_same, by show 2 ≠ 0; decide, ?_⟩⟩
      have sZ := same_upd (p := Z) (o := .lst []) nZ
      have hr7 := sZ _ _ hr6
      have ha7 := sZ _ _ ha6
      have ri8 := ri7.same sZ ha6
      have kp7 := kp6.trans (Grw.of sZ).kp
      generalize upd H6 Z (.lst []) = H7 at sZ hr7 ha7 ri8 kp7
      refine ⟨_, rfl, iteF ?_⟩
      refine ⟨.ref r', rfl, r', _, rfl, SqL.of hr7, rfl, ?_⟩
      refine ⟨_, _, rfl, _, _, rfl, rfl, ?_⟩
      refine ⟨.ref p', rfl, .ref l', rfl, ?_⟩
      refine ri8.pq.frame (C := C) fun pf H8 s8 fr8 => ?_
      have ri9 := ri8.same s8 ha7
      have ha8 := s8 _ _ ha7
      obtain ⟨dx2, _, _, _, ob2, _⟩ := id ri9.Fr.ob
      obtain ⟨dx3, _, _, _, ob3, _⟩ := id fr8.ob
      have ok := ri9.pq.g.okF
      refine ⟨p', dx2, _, _, rfl, ob2, .ins ob3, R.nfC, p', pf, z1, z2, z3, _, _, _, rfl, ri9.Fr, .inr ⟨w1, w2, w3, _, _, _, fr8, ok, ok, fun H9 s9 => ⟨_, rfl, _, rfl, ?_⟩⟩⟩
      have ri10 := ri9.same s9 ha8
      have ha9 := s9 _ _ ha8
      refine iteF' (by rw [eqv_frD]; rfl) ?_
      refine ⟨.ref a, rfl, .ref p', rfl, .ref l', rfl, rfl, a, p', l', z1, z2, z3, w1, w2, w3, ps', qs', rs', x6, y, c6, rfl, ri10.Fr, ri10.pq, ha9, C6, by omega, fun x10 c10 H10 ha10 C10 hc10 g10 => ⟨_, rfl, ?_⟩⟩
      refine iteF ?_
      exact ⟨l', p', es ++ [.ref t], z1, z2, z3, w1, w2, w3, ps', qs', rs', _, _, _, x10, c10, rfl, by rw [List.length_append, le]; rfl, ri10.grow g10 ha9, ha10, C10, by omega, kp7.trans (((Grw.of s8).trans ((Grw.of s9).trans g10)).kp)⟩
  · obtain ⟨l', p', es, u1, u2, u3, v1, v2, v3, ps, qs, rs, o4, o5, o6, x2, c2, rfl, le, ri, ha1, C3, hc2, kp⟩ := hP
    exact q l' p' es u1 u2 u3 v1 v2 v3 ps qs rs o4 o5 o6 x2 c2 H1 (by omega) ri ha1 C3 (by omega) kp
end
end K02

set_option autoImplicit false
set_option maxRecDepth 100000
set_option maxHeartbeats 4000000
/-! drawn changes of a drawn frame: elder ones stay -/
namespace K02
open PySem PySem.Spec PyProof.Rows L2 KX
section
variable {P : Program} {w : World} {K : PySem.W.Frag} {mg : Str → Option Value} {base : Heap} {C f : Addr} {cdv : Value} {A : Around} {outer : List Env} {s0 : Shared} {H0 : Hp} {E : XK} {k : Nat}
theorem eqv_ls (ps ps2 : List (Str × Str)) (qs rs qs2 rs2 : List Str) : PyData.eqv (lsD ps qs rs) (lsD ps2 qs2 rs2) = PyData.eqv (frD ps qs rs) (frD ps2 qs2 rs2) := by
  unfold lsD frD
  simp only [PyData.eqv]
def rt3 (C : Addr) : TS := fun D σ H => ∃ (a l p E : Addr) (es : List V) (x y c : Int) (u1 u2 u3 v1 v2 v3 : V) (ps : List (Str × Str)) (qs rs : List Str) (o4 o5 o6 : Option V), σ = StW a l p E o4 o5 o6 none none none ∧ H a = some (crl x y c) ∧ es.length ≤ 5 ∧ RI C H a E p l es u1 u2 u3 v1 v2 v3 ps qs rs ∧
  ∀ (o7 o8 o9 : Option V) (H' : Hp), Same H H' → D.nx (StW a l p E o4 o5 o6 o7 o8 o9) H'
theorem rgt3 (R : RF P w K mg base C) (hr : Room k (A.deeper (envOfC "_law_right" (defScope sRt) s0.heap.objs.size f cdv))) (hk : 9 ≤ k) : PS (RX P w K mg base f cdv A outer s0 H0 E).nox (stR 3) (rt3 C) := by
  refine ps_imp (ps_for PassesOwn.never rfl (pi_list (pv 3)) (pg_tup rfl (pgs_cons (pg_name (i := 7) scRt.nd rfl (Or.inl rfl)) (pgs_cons (pg_name (i := 8) scRt.nd rfl (Or.inl rfl)) (pgs_cons (pg_name (i := 9) scRt.nd rfl (Or.inl rfl)) pgs_nil))))
    (pss_one (ps_if (PW.pt (pw_or (pt_cmpR (R.eq.ne' R.mr R.ne hr (by omega)) (pv 7) (pe_fnc R.frame hr (by omega) (by rfl) pass0 (pa_cons (pv 8) pa_nil)) (nomark _))
        (pw_or (pt_cmpR op_ne (pe_callTy (R.str.str hr (by omega) pass0) (by rfl) R.B.str (by decide +kernel) (pa_cons (pv 7) pa_nil)) (pv 9) (nomark _))
        (pw_or1 (pt_cmpR op_ne (pe_cmpR (R.eq.eq' hr (by omega)) (pv 7) (pv 2) (nomark _)) (pe_cmpR (op_eqD hr.units) (pv 8) (pv 1) (nomark _)) (nomark _))))))
      (pss_one (ps_ret pe_bl)) pss_nil))) ?_
  rintro D σ H ⟨a, l, p, E, es, x, y, c, u1, u2, u3, v1, v2, v3, ps, qs, rs, o4, o5, o6, rfl, ha, le, ri, q⟩
  refine ⟨.ref E, rfl, E, rfl, ⟨_, SqL.of ri.hE⟩, ?_⟩
  refine for_list (K := K) (a := E) (xs := es) (fun _ σ' H' => ∃ (o7 o8 o9 : Option V), σ' = StW a l p E o4 o5 o6 o7 o8 o9 ∧ Same H H') ⟨none, none, none, rfl, Same.refl H⟩ (fun m σ' H' _ hP => ?_) (fun m e σ' H1 hm hP => ?_) (fun σ' H' hP => ?_)
  · obtain ⟨o7, o8, o9, _, s1⟩ := hP
    exact SqL.of (s1 _ _ ri.hE)
  · obtain ⟨o7, o8, o9, rfl, s1⟩ := hP
    obtain ⟨t, p2, l2, u1', u2', u3', w1, w2, w3, ps', qs', rs', rfl, ht, Fr', pq', _, _⟩ := (ri.eld e (List.mem_of_getElem? hm))
    have ri1 := ri.same s1 ha
    have Fr1 := Fr'.same s1
    have pq1 := pq'.same s1
    obtain ⟨t1, t2, t3, t4⟩ := pq'.g.txt
    have q1 := pq'.g.l1
    have q2 := pq'.g.l2
    have q3 := pq'.g.l3
    refine ⟨t, _, rfl, SqT.of (s1 _ _ ht), rfl, _, _, rfl, _, _, rfl, _, _, rfl, rfl, ?_⟩
    refine ⟨.ref p2, rfl, .ref l2, rfl, ?_⟩
    show tNil _ _ _
    unfold tNil
    refine pq1.frame (C := C) fun pf H2 s2 fr2 => ?_
    obtain ⟨dx2, _, _, _, ob2, _⟩ := id (Fr1.same s2).ob
    obtain ⟨dx3, _, _, _, ob3, _⟩ := id fr2.ob
    have ok := pq'.g.okF
    have okp := ri.pq.g.okF
    refine ⟨p2, dx2, _, _, rfl, ob2, .ins ob3, R.nfC, p2, pf, u1', u2', u3', _, _, _, rfl, Fr1.same s2, .inr ⟨w1, w2, w3, _, _, _, fr2, ok, ok, fun H3 s3 => ⟨_, rfl, _, rfl, ?_⟩⟩⟩
    refine iteF' (by rw [eqv_frD]; rfl) ?_
    have s13 := s2.trans s3
    refine ⟨.ref p2, rfl, p2, dx2, _, rfl, s3 _ _ ob2, p2, u1', u2', u3', ps', qs', rs', rfl, Fr1.same s13, by omega, by omega, by omega, t1, t2, t3, t4, fun H4 s4 => ⟨_, rfl, ?_⟩⟩
    refine ⟨.str (frT ps' qs' rs'), rfl, rfl, _, rfl, ?_⟩
    refine iteF' (by simp) ?_
    have s14 := s13.trans s4
    have ri4 := ri1.same s14 (s1 _ _ ha)
    obtain ⟨dx5, _, _, _, ob5, _⟩ := id ri4.Fr.ob
    refine ⟨.ref p2, rfl, .ref p, rfl, p2, dx2, _, _, rfl, s4 _ _ (s3 _ _ ob2), .ins ob5, R.nfC, p2, p, u1', u2', u3', _, _, _, rfl, Fr1.same s14, .inr ⟨u1, u2, u3, _, _, _, ri4.Fr, ok, okp, fun H5 s5 => ⟨_, rfl, ?_⟩⟩⟩
    have s15 := s14.trans s5
    have d1 := (pq1.same s15).dp (K := K)
    have d2 := (ri4.pq.same s5).dp (K := K)
    refine ⟨.ref l2, rfl, .ref l, rfl, _, _, d1, d2, ls_shaped pq'.g, ls_shaped ri.pq.g, rfl, _, rfl, ?_⟩
    refine iteF' ?_ ⟨_, _, _, rfl, s1.trans s15⟩
    rw [eqv_ls]
    simp
  · obtain ⟨o7, o8, o9, rfl, s1⟩ := hP
    exact q o7 o8 o9 H' s1
end
end K02

set_option autoImplicit false
set_option maxRecDepth 100000
set_option maxHeartbeats 4000000
/-! a frame whose tuples are partly of the written part -/
namespace K02
open PySem PySem.Spec PyProof.Rows L2 KX
/-- pairs of texts, in a tuple of the run or of the written part -/
def ArrK (K : PySem.W.Frag) (H : Hp) (v : V) (ps : List (Str × Str)) : Prop := ∃ a xs, v = .ref a ∧ SqT K H a xs ∧ ShwAll H xs (ps.map prD)
section
variable {K : PySem.W.Frag} {H H' : Hp} {a : Addr} {v : V} {xs : List V} {ps : List (Str × Str)} {zs : List Str}
theorem sqt_keep (h : SqT K H a xs) (k : Keep H H') : SqT K H' a xs := h.elim (fun h => .inl (h.elim (fun h => .inl (k _ _ h (fun _ _ _ z => nomatch z))) fun ⟨o, h⟩ => .inr ⟨o, k _ _ h (fun _ _ _ z => nomatch z)⟩)) .inr
theorem ArrK.keep (h : ArrK K H v ps) (k : Keep H H') : ArrK K H' v ps := by
  obtain ⟨a, xs, e, h1, h2⟩ := h
  exact ⟨a, xs, e, sqt_keep h1 k, ShwAll.keepT (fun b ys e => k _ _ e (fun _ _ _ z => nomatch z)) _ h2⟩
theorem ArrK.same (h : ArrK K H v ps) (s : Same H H') : ArrK K H' v ps := h.keep fun b o e _ => s b o e
theorem TxK.keep (h : TxK K H v zs) (k : Keep H H') : TxK K H' v zs := by
  obtain ⟨a, e, h1⟩ := h
  exact ⟨a, e, sqt_keep h1 k⟩
theorem TxK.sm (h : TxK K H v zs) (s : Same H H') : TxK K H' v zs := h.keep fun b o e _ => s b o e
theorem arrK_get (s : ArrK K H v ps) : ∃ (a : Addr) (xs : List V), v = .ref a ∧ SqT K H a xs ∧ xs.length = ps.length ∧ ∀ (i : Nat) (x : V), xs[i]? = some x → ∃ (p : Str × Str) (b : Addr), ps[i]? = some p ∧ x = .ref b ∧ H b = some (.tup [.str p.1, .str p.2]) := by
  obtain ⟨a, xs, rfl, e, ha⟩ := s
  refine ⟨a, xs, rfl, e, by have := ShwAll.len ha; rw [List.length_map] at this; exact this, fun i x hx => ?_⟩
  obtain ⟨d, h1, h2⟩ := ShwAll.get ha hx
  rw [List.getElem?_map] at h1
  obtain ⟨p, h3, rfl⟩ := Option.map_eq_some_iff.mp h1
  obtain ⟨b, e1, e2⟩ := pair_get h2
  exact ⟨p, b, h3, e1, e2⟩
theorem Arr.k (h : Arr H v ps) : ArrK K H v ps := by
  obtain ⟨a, xs, rfl, e, r⟩ := shw_tup h
  exact ⟨a, xs, rfl, SqT.of e, r⟩
end
def spArrK (K : PySem.W.Frag) : Sp := fun vs H Q _ => ∃ (v : V) (ps : List (Str × Str)), vs = [v] ∧ ArrK K H v ps ∧ ps.length ≤ 12 ∧ (∀ p ∈ ps, p.1 ∈ W18 ∧ p.2 ∈ W18) ∧ ∀ H', Same H H' → Q (.bl true) H'
def spLensK (K : PySem.W.Frag) : Sp := fun vs H Q _ => ∃ (v : V) (ps : List (Str × Str)), vs = [v] ∧ ArrK K H v ps ∧ ps.length ≤ 1000 ∧ ∀ (t : Addr) (H' : Hp), Same H H' → H' t = some (.tup ((lensOf ps).map V.str)) → Q (.ref t) H'
def spWordsK (K : PySem.W.Frag) : Sp := fun vs H Q _ => ∃ (v1 v2 v3 : V) (ps : List (Str × Str)) (qs rs : List Str), vs = [v1, v2, v3] ∧ ArrK K H v1 ps ∧ TxK K H v2 qs ∧ TxK K H v3 rs ∧ ps.length ≤ 300 ∧ qs.length ≤ 300 ∧ rs.length ≤ 300 ∧
  ∀ (t : Addr) (H' : Hp), Same H H' → H' t = some (.tup ((wordsOf ps qs rs).map V.str)) → Q (.ref t) H'
def spFrOfK (K : PySem.W.Frag) : Sp := fun vs H Q _ => ∃ (v1 v2 v3 : V) (ps : List (Str × Str)) (qs rs : List Str), vs = [v1, v2, v3] ∧ ArrK K H v1 ps ∧ TxK K H v2 qs ∧ TxK K H v3 rs ∧ GoodQ ps qs rs ∧ ∀ H', Same H H' → Q (.bl true) H'
structure FrameK (C : Addr) (K : PySem.W.Frag) (H : Hp) (p : Addr) (v1 v2 v3 : V) (ps : List (Str × Str)) (qs rs : List Str) : Prop where
  ob : ∃ (dx t d e : Addr), H p = some (.ins C dx (frN.zip [v1, v2, v3, .ref t, .ref d, .ref e]))
  ar : ArrK K H v1 ps
  po : TxK K H v2 qs
  va : TxK K H v3 rs
def spInitK (K : PySem.W.Frag) (C : Addr) : Sp := fun vs H Q _ => ∃ (p dx : Addr) (v1 v2 v3 : V) (ps : List (Str × Str)) (qs rs : List Str), vs = [.ref p, v1, v2, v3] ∧ H p = some (.ins C dx []) ∧ ArrK K H v1 ps ∧ TxK K H v2 qs ∧ TxK K H v3 rs ∧ GoodQ ps qs rs ∧
  (∀ H', (∀ b o, H b = some o → b ≠ p → H' b = some o) → FrameK C K H' p v1 v2 v3 ps qs rs → Q .non H')
section
variable {K : PySem.W.Frag} {tl : TE} {ts : List TE} {E : Addr} {kvs : List (Key × V)} {σ : L2.St} {H H7 : Hp} {Q : List (Key × V) → Hp → Prop} {b : Addr} {zs : List Str} {v : V} {i0 : Nat} {vs : List Nat}
theorem star_tupK (S : Same H7 H) (nE : H7 E = none) (eE : H E = some (.dK kvs)) (eb : SqT K H7 b (zs.map V.str)) (nd : zs.Nodup) (few : zs.length ≤ 1000) (ndk : ((kvs ++ keysK v zs).map (·.1)).Nodup) (fewk : kvs.length ≤ 1000)
    (l0 : i0 < σ.length) (hw : wipe ((wipe σ vs).set i0 (some (.str ""))) vs = wipe σ vs) (hw2 : ∀ x : V, wipe ((wipe σ vs).set i0 (some x)) vs = wipe σ vs) (rd : ∀ R : V → Hp → Prop, R (.ref b) H → tl σ H R)
    (next : ∀ H', Same H7 H' → H' E = some (.dK (kvs ++ keysK v zs)) → tStarsL ts E (kvs ++ keysK v zs) σ H' Q) :
    tStarsL (tDc (iTup K tl) (gName i0) tYes (tVar i0) (tC v) vs :: ts) E kvs σ H Q := by
  refine rd _ ⟨b, rfl, ⟨_, SqT.same eb S⟩, fun D nD => ?_⟩
  have wk : Walk (Itt K b) zs.length (fun H => SqT K H b (zs.map V.str)) (YAt (zs.map V.str)) := by
    have y := walk_tup (K := K) (a := b) (xs := zs.map V.str)
    rw [List.length_map] at y
    exact y
  refine dc_words wk nD few nd (fun H' s => SqT.same (SqT.same eb S) s) (fun i H1 x H2 lt y => ?_) l0 hw hw2 fun H' s e => ⟨D, keysK v zs, rfl, ne_of_none eE nD, s _ _ eE, e, ?_, ?_⟩
  · obtain ⟨r1, r2⟩ := y
    rw [List.getElem?_map] at r2
    obtain ⟨z, r3, rfl⟩ := Option.map_eq_some_iff.mp r2
    exact ⟨r1, z, r3, rfl⟩
  · rw [keysK_len, sizeLine_eq]
    omega
  · rw [merge_new ndk]
    refine next _ (fun c o z => ?_) upd_same
    rw [upd_ne (ne_of_none z nE)]
    exact s _ _ (S _ _ z)
end
section
variable {P : Program} {w : World} {K : PySem.W.Frag} {mg : Str → Option Value} {base : Heap}
theorem ok_arraysK {f : Addr} {fd : FuncData} {tk : Tok} (F : Fun K "are_arrays" "are_arrays" sAreArrays f fd) (N : Fnc P w K mg base CX0 2 "are_names" ["value", "most"] spNames) (B : Free mg) (gA : mg "MAX_ARRAYS" = some (.int 12 tk)) :
    FnOk P w K mg base CX0 3 f fd ["value"] (spArrK K) := by
  refine F.ok scAreArrays (fun vs H Q E h => ?_) (fun cdv A outer s H vs Q E hr h => ?_)
  · obtain ⟨v, ps, rfl, _⟩ := h
    rfl
  · obtain ⟨v, ps, rfl, sh, few, wd, q⟩ := h
    refine ⟨_, pss_cons (ps_if (PW.pt (pw_or (pt_not (pt_val (pe_callB call_isi (by rfl) B.isinstance (by decide +kernel) (pa_cons (pv 0) (pa_cons (pe_bltn (v := .ty "tuple") (by rfl) B.tuple (by decide +kernel) rfl) pa_nil)))))
          (pw_or1 (pt_cmpR op_gt (pe_callB call_len_seq (by rfl) B.len PySem.boot_len (pa_cons (pv 0) pa_nil)) (pe_glob (v := .int 12) (by rfl) gA ⟨_, rfl⟩) (nomark _)))))
        (pss_one (ps_ret pe_bl)) pss_nil)
      (pss_one (ps_ret (pe_callB (cr_all rfl) (by rfl) B.all (by decide +kernel) (pa_cons (pe_lc (own := [("pair", 1)]) (g := gName 1) (tt := tYes) rfl scAreArrays.nd (pi_tup (pv 0)) (blkOk_by (N := ["value", "pair"]) (sc := defScope sAreArrays) (by decide +kernel))
          (fun _ _ _ _ _ => pg_name (i := 1) scAreArrays.nd rfl (Or.inl rfl)) (fun _ _ _ _ _ => pts_nil)
          (fun _ _ _ _ _ => pe_and (pe_fnc N hr (by omega) (by rfl) pass0 (pa_cons (pv 1) (pa_cons pe_int pa_nil))) (pe_one (pe_cmpR op_eq (pe_callB (r := rLen K) call_len_seq (by rfl) B.len PySem.boot_len (pa_cons (pv 1) pa_nil)) pe_int (nomark _))))) pa_nil)))), ?_⟩
    obtain ⟨a, xs, rfl, e, ln, at_⟩ := arrK_get sh
    refine ⟨.ref a, rfl, .ref a, .ty "tuple", _, _, true, rfl, .ty _, sqt_ty e, kit_ty (kit_tup (.tuple [])), true, rfl, ?_⟩
    refine ⟨.ref a, rfl, a, xs, rfl, .inr e, _, _, rfl, rfl, _, rfl, ?_⟩
    refine iteF' (decide_eq_false (by omega)) ?_
    refine ⟨.ref a, rfl, a, rfl, ⟨_, e⟩, fun D nD => ?_⟩
    refine lc_tup (K := K) (a := a) (xs := xs) (fun m H' => Same H H' ∧ H' D = some (.lst ((ps.take m).map fun _ => V.bl true))) ⟨same_upd nD, by rw [List.take_zero]; exact upd_same⟩ (fun m H' _ hP => SqT.same e hP.1) (fun m x H' hm hP => ?_) (fun H' hP => ?_)
    · obtain ⟨s1, d1⟩ := hP
      obtain ⟨p, b, hp, rfl, eb⟩ := at_ m x hm
      have wp := wd p (List.mem_of_getElem? hp)
      have eb1 := s1 _ _ eb
      have g0 : gd (prD p) = true := by
        have a1 := W18_gd _ wp.1
        have a2 := W18_gd _ wp.2
        unfold prD
        simp only [gd, gdAll] at a1 a2 ⊢
        rw [a1, a2]
        rfl
      have n0 : areNm 2 (prD p) = true := by
        have a1 := W18_nm _ wp.1
        have a2 := W18_nm _ wp.2
        show (true && (nameS p.1 && (nameS p.2 && true))) = true
        rw [a1, a2]
        rfl
      refine ⟨rfl, .ref b, rfl, .ref b, prD p, 2, rfl, .tup eb1 (.cons (.str _) (.cons (.str _) .nil)), g0, fun H4 s4 => ?_⟩
      rw [n0]
      refine ⟨_, rfl, iteT ?_⟩
      refine ⟨.ref b, rfl, b, _, rfl, .inr (SqT.of (s4 _ _ eb1)), rfl, _, s4 _ _ d1, ?_, fun c o z => ?_, ?_⟩
      · rw [List.length_map, List.length_take, sizeLine_eq]
        omega
      · rw [upd_ne (ne_of_none z nD)]
        exact s4 _ _ (s1 _ _ z)
      · rw [upd_same, List.take_add_one, hp, List.map_append]
        rfl
    · obtain ⟨s1, d1⟩ := hP
      rw [ln, List.take_length] at d1
      refine ⟨D, ps.map fun _ => true, rfl, SqL.of (by rw [d1, List.map_map]; rfl), ?_⟩
      have ea : (ps.map fun _ => true).all id = true := by
        rw [List.all_map]
        exact List.all_eq_true.mpr fun _ _ => rfl
      rw [ea]
      exact q H' s1
theorem ok_lensK {f : Addr} {fd : FuncData} (F : Fun K "lengths_in" "lengths_in" sLengthsIn f fd) (B : Free mg) : FnOk P w K mg base CX0 1 f fd ["arrays"] (spLensK K) := by
  refine F.ok scLengthsIn (fun vs H Q E h => ?_) (fun cdv A outer s H vs Q E hr h => ?_)
  · obtain ⟨v, ps, rfl, _⟩ := h
    rfl
  · obtain ⟨v, ps, rfl, sh, few, q⟩ := h
    refine ⟨_, pss_one (ps_ret (pe_callTy (call_tuple_dK rfl) (by rfl) B.tuple (by decide +kernel) (pa_cons (pe_dc (own := [("array", 1), ("length", 2)]) (g := gTup K 2 (gCons (gName 1) (gCons (gName 2) gNil))) (tt := tYes) rfl scLengthsIn.nd (pi_tup (pv 0)) (blkOk_by (N := ["arrays", "array", "length"]) (sc := defScope sLengthsIn) (by decide +kernel))
        (fun _ _ _ _ _ => pg_tup rfl (pgs_cons (pg_name (i := 1) scLengthsIn.nd rfl (Or.inl rfl) (Or.inr rfl)) (pgs_cons (pg_name (i := 2) scLengthsIn.nd rfl (Or.inl rfl) (Or.inr rfl)) pgs_nil))) (fun _ _ _ _ _ => pts_nil)
        (fun _ _ _ _ _ => pv 2) (fun _ _ _ _ _ => pe_bl)) pa_nil))), ?_⟩
    obtain ⟨a, xs, rfl, e, ln, at_⟩ := arrK_get sh
    refine ⟨.ref a, rfl, a, rfl, ⟨_, e⟩, fun D nD => ?_⟩
    refine dc_tup (K := K) (a := a) (xs := xs) (fun m H' => Same H H' ∧ H' D = some (.dK (keysK (.bl true) (onceS ((ps.take m).map (·.2)))))) ⟨same_upd nD, upd_same⟩ (fun m H' _ hP => SqT.same e hP.1) (fun m x H' hm hP => ?_) (fun H' hP => ?_)
    · obtain ⟨s1, d1⟩ := hP
      obtain ⟨p, b, hp, rfl, e2⟩ := at_ m x hm
      have len1 : (keysK (.bl true) (onceS ((ps.take m).map (·.2)))).length < sizeLine := by
        unfold keysK
        rw [List.length_map, sizeLine_eq]
        have := onceS_le ((ps.take m).map (·.2))
        rw [List.length_map, List.length_take] at this
        omega
      refine ⟨b, _, rfl, SqT.of (s1 _ _ e2), rfl, _, _, rfl, _, _, rfl, rfl, rfl, _, rfl, _, .inr p.2, rfl, d1, len1, fun c o z => ?_, ?_⟩
      · rw [upd_ne (ne_of_none z nD)]
        exact s1 _ _ z
      · rw [upd_same, put_keysK, List.take_add_one, hp, List.map_append]
        show _ = some (HO.dK (keysK (.bl true) (onceS ((ps.take m).map (·.2) ++ [p.2]))))
        rw [onceS_snoc]
    · obtain ⟨s1, d1⟩ := hP
      rw [ln, List.take_length] at d1
      refine ⟨D, _, rfl, d1, fun t nt => q t _ (s1.trans (same_upd nt)) ?_⟩
      rw [upd_same]
      unfold keysK lensOf
      rw [List.map_map]
      rfl
theorem ok_wordsK {f : Addr} {fd : FuncData} (F : Fun K "words_in" "words_in" sWordsIn f fd) (L : Fnc P w K mg base CX0 1 "lengths_in" ["arrays"] (spLensK K)) (B : Free mg) :
    FnOk P w K mg base CX0 2 f fd ["arrays", "positions", "values"] (spWordsK K) := by
  refine F.ok scWordsIn (fun vs H Q E h => ?_) (fun cdv A outer s H vs Q E hr h => ?_)
  · obtain ⟨v1, v2, v3, ps, qs, rs, rfl, _⟩ := h
    rfl
  · obtain ⟨v1, v2, v3, ps, qs, rs, rfl, sh, t2, t3, few1, few2, few3, q⟩ := h
    refine ⟨_, pss_one (ps_ret (pe_tup (StX.pa_star (pe_lc (own := [("array", 3), ("length", 4)]) (g := gTup K 2 (gCons (gName 3) (gCons (gName 4) gNil))) (tt := tYes) rfl scWordsIn.nd (pi_tup (pv 0)) (blkOk_by (N := ["arrays", "positions", "values", "array", "length"]) (sc := defScope sWordsIn) (by decide +kernel))
        (fun _ _ _ _ _ => pg_tup rfl (pgs_cons (pg_name (i := 3) scWordsIn.nd rfl (Or.inl rfl) (Or.inr rfl)) (pgs_cons (pg_name (i := 4) scWordsIn.nd rfl (Or.inl rfl) (Or.inr rfl)) pgs_nil))) (fun _ _ _ _ _ => pts_nil) (fun _ _ _ _ _ => pv 3))
      (StX.pa_star (pe_fnc L hr (by omega) (by rfl) pass0 (pa_cons (pv 0) pa_nil)) (StX.pa_star (pv 1) (StX.pa_star (pv 2) pa_nil)))))), ?_⟩
    obtain ⟨a, xs, rfl, e, ln, at_⟩ := arrK_get sh
    obtain ⟨a2, rfl, e2⟩ := t2
    obtain ⟨a3, rfl, e3⟩ := t3
    refine ⟨.ref a, rfl, a, rfl, ⟨_, e⟩, fun D nD => ?_⟩
    refine lc_tup (K := K) (a := a) (xs := xs) (fun m H' => Same H H' ∧ H' D = some (.lst ((ps.take m).map fun p => V.str p.1))) ⟨same_upd nD, upd_same⟩ (fun m H' _ hP => SqT.same e hP.1) (fun m x H' hm hP => ?_) (fun H' hP => ?_)
    · obtain ⟨s1, d1⟩ := hP
      obtain ⟨p, b, hp, rfl, eb⟩ := at_ m x hm
      refine ⟨b, _, rfl, SqT.of (s1 _ _ eb), rfl, _, _, rfl, _, _, rfl, rfl, rfl, _, rfl, _, d1, ?_, fun c o z => ?_, ?_⟩
      · rw [List.length_map, List.length_take, sizeLine_eq]
        omega
      · rw [upd_ne (ne_of_none z nD)]
        exact s1 _ _ z
      · rw [upd_same, List.take_add_one, hp, List.map_append]
        rfl
    · obtain ⟨s1, d1⟩ := hP
      rw [ln, List.take_length] at d1
      refine ⟨D, _, rfl, .inr (SqL.of d1), .ref a, rfl, .ref a, ps, rfl, sh.same s1, by omega, fun t H2 s2 e4 => ⟨t, _, rfl, .inl (SqT.of e4), .ref a2, rfl, a2, _, rfl, .inl (SqT.same e2 (s1.trans s2)), .ref a3, rfl, a3, _, rfl, .inl (SqT.same e3 (s1.trans s2)), ?_, fun r nr => ?_⟩⟩
      · have l1 := lensOf_le ps
        simp only [List.length_append, List.length_map, List.length_nil, sizeLine_eq]
        omega
      · refine q r _ ((s1.trans s2).trans (same_upd nr)) ?_
        rw [upd_same]
        unfold wordsOf
        simp [List.map_append, List.map_map, Function.comp_def]
theorem ok_frOfK {f : Addr} {fd : FuncData} {tp tv : Tok} (F : Fun K "is_frame_of" "is_frame_of" sFrameOf f fd) (A1 : Fnc P w K mg base CX0 3 "are_arrays" ["value"] (spArrK K)) (A2 : Fnc P w K mg base CX0 2 "are_names" ["value", "most"] (spNamesK K))
    (A3 : Fnc P w K mg base CX0 2 "words_in" ["arrays", "positions", "values"] (spWordsK K)) (B : Free mg) (gP : mg "MAX_POSITIONS" = some (.int 6 tp)) (gV : mg "MAX_VALUES" = some (.int 6 tv)) :
    FnOk P w K mg base CX0 4 f fd ["arrays", "positions", "values"] (spFrOfK K) := by
  refine F.ok scFrameOf (fun vs H Q E h => ?_) (fun cdv A outer s H vs Q E hr h => ?_)
  · obtain ⟨v1, v2, v3, ps, qs, rs, rfl, _⟩ := h
    rfl
  · obtain ⟨v1, v2, v3, ps, qs, rs, rfl, y1, y2, y3, g, q⟩ := h
    refine ⟨_, pss_cons (ps_if (PW.pt (pw_or (pt_not (pt_val (pe_fnc A1 hr (by omega) (by rfl) pass0 (pa_cons (pv 0) pa_nil))))
          (pw_or (pt_not (pt_val (pe_fnc A2 hr (by omega) (by rfl) pass0 (pa_cons (pv 1) (pa_cons (pe_glob (v := .int 6) (by rfl) gP ⟨_, rfl⟩) pa_nil)))))
          (pw_or1 (pt_not (pt_val (pe_fnc A2 hr (by omega) (by rfl) pass0 (pa_cons (pv 2) (pa_cons (pe_glob (v := .int 6) (by rfl) gV ⟨_, rfl⟩) pa_nil)))))))))
        (pss_one (ps_ret pe_bl)) pss_nil)
      (pss_cons (ps_set (i := 3) scFrameOf.nd rfl (.inl rfl) (pe_fnc A3 hr (by omega) (by rfl) pass0 (pa_cons (pv 0) (pa_cons (pv 1) (pa_cons (pv 2) pa_nil)))))
      (pss_one (ps_ret (pe_cmpR op_eq (pe_lenWords (by rfl) B.len (by rfl) B.set (pv 3)) (pe_callB call_len_seq (by rfl) B.len PySem.boot_len (pa_cons (pv 3) pa_nil)) (nomark _))))), ?_⟩
    have l1 := g.l1
    have l2 := g.l2
    have l3 := g.l3
    refine ⟨v1, rfl, v1, ps, rfl, y1, l1, g.w.m1, fun H1 w1 => ⟨_, rfl, ?_⟩⟩
    have y2' := y2.sm w1
    have y3' := y3.sm w1
    obtain ⟨b2, rfl, e2⟩ := id y2'
    obtain ⟨b3, rfl, e3⟩ := id y3'
    refine ⟨.ref b2, rfl, b2, 6, qs, rfl, e2, l2, by omega, fun z hz => W18_nm z (g.w.m2 z hz), fun z hz => W18_gd z (g.w.m2 z hz), fun H2 w2 => ⟨_, rfl, ?_⟩⟩
    refine ⟨.ref b3, rfl, b3, 6, rs, rfl, SqT.same e3 w2, l3, by omega, fun z hz => W18_nm z (g.w.m3 z hz), fun z hz => W18_gd z (g.w.m3 z hz), fun H3 w3 => ⟨_, rfl, ?_⟩⟩
    have w13 := (w1.trans w2).trans w3
    refine ⟨v1, rfl, .ref b2, rfl, .ref b3, rfl, v1, .ref b2, .ref b3, ps, qs, rs, rfl, y1.same w13, y2.sm w13, y3.sm w13, by omega, by omega, by omega, fun t H4 w4 e4 => ?_⟩
    have few := g.wlen
    refine ⟨_, rfl, t, _, rfl, .inr (SqT.of e4), by omega, .ref t, rfl, t, _, rfl, .inr (SqT.of e4), rfl, ?_⟩
    have en : decide (V.int ((once (wordsOf ps qs rs)).length : Nat) = V.int (((wordsOf ps qs rs).map V.str).length : Nat)) = true := by
      refine decide_eq_true ?_
      rw [List.length_map]
      have : once (wordsOf ps qs rs) = wordsOf ps qs rs := onceS_id g.nd
      rw [this]
    rw [en]
    exact q H4 (w13.trans w4)
theorem ok_initK {f C CI : Addr} {fd : FuncData} (F : Fun K "__init__" "Frame.__init__" sInit f fd) (T : FrTxt K mg C) (M : MkP K mg "InvalidFrame" CI) (FO : Fnc P w K mg base CX0 4 "is_frame_of" ["arrays", "positions", "values"] (spFrOfK K))
    (L : Fnc P w K mg base CX0 1 "lengths_in" ["arrays"] (spLensK K)) : FnOk P w K mg base (L2N.CX P w) 5 f fd ["self", "arrays", "positions", "values"] (spInitK K C) := by
  refine okN F scInit (fun vs H Q E h => ?_) (fun cdv A outer s H vs Q E hr h => ?_)
  · obtain ⟨p, dx, v1, v2, v3, ps, qs, rs, rfl, _⟩ := h
    rfl
  · obtain ⟨p, dx, v1, v2, v3, ps, qs, rs, rfl, hp, y1, y2, y3, g, good⟩ := h
    refine ⟨_, pss_cons (ps_if (pt_not (pt_val (pe_fnc FO hr (by omega) (by rfl) pass0 (pa_cons (pv 1) (pa_cons (pv 2) (pa_cons (pv 3) pa_nil)))))) (pss_one (L2N.ps_raise rfl (L2N.takes_of rfl rfl rfl rfl) (pmk_mkPN M (by rfl)))) pss_nil)
      (pss_cons (ps_fld (pv 0) (pv 1) rfl)
      (pss_cons (ps_fld (pv 0) (pv 2) rfl)
      (pss_cons (ps_fld (pv 0) (pv 3) rfl)
      (pss_cons (ps_fld (pv 0) (pe_fnc L hr (by omega) (by rfl) pass0 (pa_cons (pv 1) pa_nil)) rfl)
      (pss_cons (ps_fld (pv 0) (pe_dc (own := [("array", 4), ("length", 5)]) (g := gTup K 2 (gCons (gName 4) (gCons (gName 5) gNil))) (tt := tYes) rfl scInit.nd (pi_tup (pv 1)) (blkOk_by (N := nInit) (sc := defScope sInit) (by decide +kernel))
          (fun _ _ _ _ _ => pg_tup rfl (pgs_cons (pg_name (i := 4) scInit.nd rfl (Or.inl rfl) (Or.inr rfl)) (pgs_cons (pg_name (i := 5) scInit.nd rfl (Or.inl rfl) (Or.inr rfl)) pgs_nil))) (fun _ _ _ _ _ => pts_nil)
          (fun _ _ _ _ _ => pv 4) (fun _ _ _ _ _ => pv 5)) rfl)
      (pss_one (ps_fld (pv 0) (pe_stars (PStars.cons (pe_lock (pe_dc (own := [("word", 6)]) (g := gName 6) (tt := tYes) rfl scInit.nd (pi_keys (pe_fld (pv 0) rfl)) (blkOk_by (N := nInit) (sc := defScope sInit) (by decide +kernel))
            (fun _ _ _ _ _ => pg_name (i := 6) scInit.nd rfl (Or.inl rfl)) (fun _ _ _ _ _ => pts_nil) (fun _ _ _ _ _ => pv 6) (fun _ _ _ _ _ => pe_str)))
          (PStars.cons (pe_dc (own := [("word", 6)]) (g := gName 6) (tt := tYes) rfl scInit.nd (pi_tup (pe_fld (pv 0) rfl)) (blkOk_by (N := nInit) (sc := defScope sInit) (by decide +kernel))
            (fun _ _ _ _ _ => pg_name (i := 6) scInit.nd rfl (Or.inl rfl)) (fun _ _ _ _ _ => pts_nil) (fun _ _ _ _ _ => pv 6) (fun _ _ _ _ _ => pe_str))
          (PStars.cons (pe_dc (own := [("word", 6)]) (g := gName 6) (tt := tYes) rfl scInit.nd (pi_tup (pv 2)) (blkOk_by (N := nInit) (sc := defScope sInit) (by decide +kernel))
            (fun _ _ _ _ _ => pg_name (i := 6) scInit.nd rfl (Or.inl rfl)) (fun _ _ _ _ _ => pts_nil) (fun _ _ _ _ _ => pv 6) (fun _ _ _ _ _ => pe_str))
          (PStars.cons (pe_dc (own := [("word", 6)]) (g := gName 6) (tt := tYes) rfl scInit.nd (pi_tup (pv 3)) (blkOk_by (N := nInit) (sc := defScope sInit) (by decide +kernel))
            (fun _ _ _ _ _ => pg_name (i := 6) scInit.nd rfl (Or.inl rfl)) (fun _ _ _ _ _ => pts_nil) (fun _ _ _ _ _ => pv 6) (fun _ _ _ _ _ => pe_str)) PStars.nil)))) rfl (by nofun)) rfl))))))), ?_⟩
    have l1 := g.l1
    have l2 := g.l2
    have l3 := g.l3
    refine ⟨v1, rfl, v2, rfl, v3, rfl, v1, v2, v3, ps, qs, rs, rfl, y1, y2, y3, g, fun H1 w1 => ⟨_, rfl, iteF ?_⟩⟩
    · replace y1 := y1.same w1
      replace y2 := y2.sm w1
      replace y3 := y3.sm w1
      have hp1 := w1 _ _ hp
      replace good := fun (H' : Hp) (g : ∀ b o, H1 b = some o → b ≠ p → H' b = some o) => good H' fun b o z n => g b o (w1 b o z) n
      have nd' := g.nd
      have ln := lensOf_le ps
      have nd := nd'
      unfold wordsOf at nd
      have nA := (List.nodup_append.mp nd).1
      have nR := (List.nodup_append.mp nd).2.1
      have nL := (List.nodup_append.mp nR).1
      have nQR := (List.nodup_append.mp nR).2.1
      have nQ := (List.nodup_append.mp nQR).1
      have nV := (List.nodup_append.mp nQR).2.1
      have m0 : Mid H1 p C dx [] H1 := ⟨hp1, fun _ _ e _ => e⟩
      have f1 : putF "_arrays" v1 [] = (["_arrays"] : List Str).zip [v1] := putF_zip (ns := []) (vs := []) (by decide +kernel) rfl
      refine ⟨v1, rfl, .ref p, rfl, p, C, dx, _, rfl, m0.own, T.cl, T.no _ (by decide +kernel), (by show 0 < 1000; decide), ?_⟩
      rw [f1]
      have m1 := m0.put (F' := (["_arrays"] : List Str).zip [v1])
      have f2 : putF "_positions" v2 ((["_arrays"] : List Str).zip [v1]) = (["_arrays", "_positions"] : List Str).zip [v1, v2] := putF_zip (by decide +kernel) rfl
      refine ⟨v2, rfl, .ref p, rfl, p, C, dx, _, rfl, m1.own, T.cl, T.no _ (by decide +kernel), (by show 1 < 1000; decide), ?_⟩
      rw [f2]
      have m2 := m1.put (F' := (["_arrays", "_positions"] : List Str).zip [v1, v2])
      have f3 : putF "_amounts" v3 ((["_arrays", "_positions"] : List Str).zip [v1, v2]) = (["_arrays", "_positions", "_amounts"] : List Str).zip [v1, v2, v3] := putF_zip (by decide +kernel) rfl
      refine ⟨v3, rfl, .ref p, rfl, p, C, dx, _, rfl, m2.own, T.cl, T.no _ (by decide +kernel), (by show 2 < 1000; decide), ?_⟩
      rw [f3]
      have m3 := m2.put (F' := (["_arrays", "_positions", "_amounts"] : List Str).zip [v1, v2, v3])
      generalize upd (upd (upd H1 p _) p _) p _ = H3 at m3 ⊢
      refine ⟨v1, rfl, v1, ps, rfl, y1.keep (m3.keep hp1), by omega, fun t H4 w4 e4 => ?_⟩
      have m4 := m3.same w4
      have f4 : putF "_lengths" (.ref t) ((["_arrays", "_positions", "_amounts"] : List Str).zip [v1, v2, v3]) = (["_arrays", "_positions", "_amounts", "_lengths"] : List Str).zip [v1, v2, v3, .ref t] := putF_zip (by decide +kernel) rfl
      refine ⟨.ref p, rfl, p, C, dx, _, rfl, m4.own, T.cl, T.no _ (by decide +kernel), (by show 3 < 1000; decide), ?_⟩
      rw [f4]
      have m5 := m4.put (F' := (["_arrays", "_positions", "_amounts", "_lengths"] : List Str).zip [v1, v2, v3, .ref t])
      have np : t ≠ p := fun z => by rw [z, m4.own] at e4; cases e4
      have e5 : (upd H4 p (.ins C dx ((["_arrays", "_positions", "_amounts", "_lengths"] : List Str).zip [v1, v2, v3, .ref t]))) t = some (.tup ((lensOf ps).map V.str)) := by rw [upd_ne np]; exact e4
      generalize upd H4 p _ = H5 at m5 e5 ⊢
      have y15 := y1.keep (m5.keep hp1)
      obtain ⟨a, xs, rfl, ea, lx, at_⟩ := arrK_get y15
      refine ⟨.ref a, rfl, a, rfl, ⟨_, ea⟩, fun D nD => ?_⟩
      refine dc_tup (K := K) (a := a) (xs := xs) (fun m H' => Same H5 H' ∧ H' D = some (.dK (lenK (ps.take m)))) ⟨same_upd nD, upd_same⟩ (fun m H' _ hP => SqT.same ea hP.1) (fun m x H' hm hP => ?_) (fun H6 hP => ?_)
      · obtain ⟨u1, u2⟩ := hP
        obtain ⟨q, b, hq, rfl, eb⟩ := at_ m x hm
        have short : (lenK (ps.take m)).length < sizeLine := by
          unfold lenK
          rw [List.length_map, List.length_take, sizeLine_eq]
          omega
        refine ⟨b, _, rfl, SqT.of (u1 _ _ eb), rfl, _, _, rfl, _, _, rfl, rfl, rfl, _, rfl, _, rfl, _, .inr q.1, rfl, u2, short, fun c o z => ?_, ?_⟩
        · rw [upd_ne (ne_of_none z nD)]
          exact u1 _ _ z
        · rw [upd_same, putK_lenK nA hq]
      · obtain ⟨w6, e6⟩ := hP
        rw [lx, List.take_length] at e6
        have m6 := m5.same w6
        have f5 : putF "_length_of" (.ref D) ((["_arrays", "_positions", "_amounts", "_lengths"] : List Str).zip [.ref a, v2, v3, .ref t]) = (["_arrays", "_positions", "_amounts", "_lengths", "_length_of"] : List Str).zip [.ref a, v2, v3, .ref t, .ref D] := putF_zip (by decide +kernel) rfl
        refine ⟨.ref p, rfl, p, C, dx, _, rfl, m6.own, T.cl, T.no _ (by decide +kernel), (by show 4 < 1000; decide), ?_⟩
        rw [f5]
        have m7 := m6.put (F' := (["_arrays", "_positions", "_amounts", "_lengths", "_length_of"] : List Str).zip [.ref a, v2, v3, .ref t, .ref D])
        have nD' : D ≠ p := fun z => by rw [z, m6.own] at e6; cases e6
        have d7 : (upd H6 p (.ins C dx ((["_arrays", "_positions", "_amounts", "_lengths", "_length_of"] : List Str).zip [.ref a, v2, v3, .ref t, .ref D]))) D = some (.dK (lenK ps)) := by rw [upd_ne nD']; exact e6
        have t7 : (upd H6 p (.ins C dx ((["_arrays", "_positions", "_amounts", "_lengths", "_length_of"] : List Str).zip [.ref a, v2, v3, .ref t, .ref D]))) t = some (.tup ((lensOf ps).map V.str)) := by rw [upd_ne np]; exact w6 _ _ e5
        generalize upd H6 p _ = H7 at m7 d7 t7 ⊢
        intro E nE
        obtain ⟨b2, rfl, eb2⟩ := y2.keep (m7.keep hp1)
        obtain ⟨b3, rfl, eb3⟩ := y3.keep (m7.keep hp1)
        have kn := nd_inr nd'
        rw [← kinds_keys] at kn
        have kn3 : (((keysK (.str "array") (ps.map (·.1)) ++ keysK (.str "length") (lensOf ps)) ++ keysK (.str "position") qs).map (·.1)).Nodup := by
          unfold kindsOf at kn
          rw [List.map_append] at kn
          exact (List.nodup_append.mp kn).1
        have kn2 : ((keysK (.str "array") (ps.map (·.1)) ++ keysK (.str "length") (lensOf ps)).map (·.1)).Nodup := by
          rw [List.map_append] at kn3
          exact (List.nodup_append.mp kn3).1
        have kn1 : ((([] : List (Key × V)) ++ keysK (.str "array") (ps.map (·.1))).map (·.1)).Nodup := by
          rw [List.map_append] at kn2
          exact (List.nodup_append.mp kn2).1
        have nDp : D ≠ p := nD'
        refine star_keys (same_upd nE) nE upd_same d7 nA (by omega) kn1 (Nat.zero_le _) (show 6 < 7 by decide) rfl (fun _ => rfl) (fun o R r => ⟨.ref p, rfl, p, C, dx, _, .ref D, rfl, ?_, T.cl, T.no _ (by decide +kernel), lookup_zip (ns := ["_arrays", "_positions", "_amounts", "_lengths", "_length_of"]) (vs := [.ref a, .ref b2, .ref b3, .ref t, .ref D]) (i := 4) (by decide +kernel) rfl, r⟩) fun H8 w8 e8 => ?_
        · rw [upd_ne nDp.symm, upd_ne (ne_of_none m7.own nE)]
          exact m7.own
        refine star_tup w8 nE e8 t7 nL (by omega) kn2 (by rw [List.nil_append, keysK_len, List.length_map]; omega) (show 6 < 7 by decide) rfl (fun _ => rfl) (fun R r => ⟨.ref p, rfl, p, C, dx, _, .ref t, rfl, w8 _ _ m7.own, T.cl, T.no _ (by decide +kernel), lookup_zip (ns := ["_arrays", "_positions", "_amounts", "_lengths", "_length_of"]) (vs := [.ref a, .ref b2, .ref b3, .ref t, .ref D]) (i := 3) (by decide +kernel) rfl, r⟩) fun H9 w9 e9 => ?_
        refine star_tupK w9 nE e9 eb2 nQ (by omega) kn3 (by rw [List.nil_append, List.length_append, keysK_len, keysK_len, List.length_map]; omega) (show 6 < 7 by decide) rfl (fun _ => rfl) (fun R r => ⟨.ref b2, rfl, r⟩) fun H10 w10 e10 => ?_
        refine star_tupK w10 nE e10 eb3 nV (by omega) kn (by rw [List.nil_append, List.length_append, List.length_append, keysK_len, keysK_len, keysK_len, List.length_map]; omega) (show 6 < 7 by decide) rfl (fun _ => rfl) (fun R r => ⟨.ref b3, rfl, r⟩) fun H11 w11 e11 => ?_
        have m11 := m7.same w11
        have f6 : putF "_kinds" (.ref E) ((["_arrays", "_positions", "_amounts", "_lengths", "_length_of"] : List Str).zip [.ref a, .ref b2, .ref b3, .ref t, .ref D]) = frN.zip [.ref a, .ref b2, .ref b3, .ref t, .ref D, .ref E] := putF_zip (by decide +kernel) rfl
        refine ⟨.ref p, rfl, p, C, dx, _, rfl, m11.own, T.cl, T.no _ (by decide +kernel), (by show 5 < 1000; decide), ?_⟩
        rw [f6]
        have m12 := m11.put (F' := frN.zip [.ref a, .ref b2, .ref b3, .ref t, .ref D, .ref E])
        have nEp : E ≠ p := (ne_of_none m7.own nE).symm
        exact good _ (fun b o z n => m12.off b o z n) ⟨⟨dx, t, D, E, upd_same⟩, y1.keep (m12.keep hp1), y2.keep (m12.keep hp1), y3.keep (m12.keep hp1)⟩
end
end K02

set_option autoImplicit false
set_option maxRecDepth 100000
set_option maxHeartbeats 4000000
/-! a drawn frame with no more names, and with the same names -/
namespace K02
open PySem PySem.Spec PyProof.Rows L2 KX
theorem passL0 {X : Cx} : Passes (L2.CX X.prog X.w) X E0 := fun _ _ _ _ _ _ _ h => by
  obtain ⟨_, _, _, _, _, _, _, _, _, _, _, _, h⟩ := h
  exact h.elim
theorem ren_nil (z : Str) : ren [] z = z := rfl
theorem ren_id (zs : List Str) : zs.map (ren []) = zs := (List.map_congr_left fun z _ => ren_nil z).trans (List.map_id zs)
theorem renP_id (ps : List (Str × Str)) : ps.map (renP []) = ps := (List.map_congr_left fun p _ => (rfl : renP [] p = p)).trans (List.map_id ps)
theorem cat0 {K : PySem.W.Frag} {H : Hp} {Q : VK} {a b : Addr} {xs : List V} (h : SqT K H a xs) (hb : SqT K H b []) (few : xs.length ≤ 1000) (q : ∀ r, (r = a) ∨ (xs = [] ∧ r = b) → Q (.ref r) H) : rCatA K (.ref a) (.ref b) H Q :=
  ⟨a, b, xs, [], rfl, rfl, h, hb, by rw [sizeLine_eq]; show xs.length + 0 ≤ _; omega, fun e => q b (.inr ⟨e, rfl⟩), fun _ _ => q a (.inl rfl), fun _ n => absurd rfl n⟩
theorem arr0 {K : PySem.W.Frag} {H : Hp} {a b r : Addr} {xs : List V} {ps : List (Str × Str)} (h : SqT K H a xs) (sh : ShwAll H xs (ps.map prD)) (hb : SqT K H b []) (hr : (r = a) ∨ (xs = [] ∧ r = b)) : ArrK K H (.ref r) ps := by
  rcases hr with rfl | ⟨rfl, rfl⟩
  · exact ⟨_, _, rfl, h, sh⟩
  · refine ⟨_, [], rfl, hb, ?_⟩
    have := ShwAll.len sh
    rw [List.length_map] at this
    rw [List.length_eq_zero_iff.mp this.symm]
    exact .nil
theorem txt0 {K : PySem.W.Frag} {H : Hp} {a b r : Addr} {zs : List Str} (h : SqT K H a (zs.map V.str)) (hb : SqT K H b []) (hr : (r = a) ∨ (zs.map V.str = [] ∧ r = b)) : TxK K H (.ref r) zs := by
  rcases hr with rfl | ⟨e, rfl⟩
  · exact ⟨_, rfl, h⟩
  · rw [List.map_eq_nil_iff.mp e]
    exact ⟨_, rfl, hb⟩
def spWith0 (K : PySem.W.Frag) (C A0 A1 A2 : Addr) : Sp := fun vs H Q _ => ∃ (p : Addr) (v1 v2 v3 : V) (ps : List (Str × Str)) (qs rs : List Str), vs = [.ref p, .ref A0, .ref A1, .ref A2] ∧ FrameAt C H p v1 v2 v3 ps qs rs ∧ GoodQ ps qs rs ∧
  ∀ p' u1 u2 u3 H', Same H H' → FrameK C K H' p' u1 u2 u3 ps qs rs → Q (.ref p') H'
def spEqK (K : PySem.W.Frag) (C : Addr) : Sp := fun vs H Q _ => ∃ (p q : Addr) (v1 v2 v3 w1 w2 w3 : V) (ps : List (Str × Str)) (qs rs : List Str), vs = [.ref p, .ref q] ∧ FrameK C K H p v1 v2 v3 ps qs rs ∧ FrameAt C H q w1 w2 w3 ps qs rs ∧ okF ps qs rs ∧ ∀ H', Same H H' → Q (.bl true) H'
structure MkFK (P : Program) (w : World) (K : PySem.W.Frag) (mg : Str → Option Value) (base : Heap) (C : Addr) : Prop where
  gF : mg "Frame" = some (.ref C)
  ex : ∃ (fI : Addr) (fd : FuncData), Mk K C fI ∧ FnOk P w K mg base (L2N.CX P w) 5 fI fd ["self", "arrays", "positions", "values"] (spInitK K C) ∧ Binds K fd ["self", "arrays", "positions", "values"] []
section
variable {P : Program} {w : World} {K : PySem.W.Frag} {mg : Str → Option Value} {base : Heap}
theorem ok_with0 {f C A0 A1 A2 : Addr} {fd : FuncData} {dvs : List V} {kws : List (Str × V)} (F : FunD K "with_names" "Frame.with_names" (defArgs sWith) (defBody sWith) (defScope sWith) dvs kws f fd)
    (T : FrTxt K mg C) (B : Free mg) (M : MkFK P w K mg base C) (t0 : ∀ H, SqT K H A0 []) (t1 : ∀ H, SqT K H A1 []) (t2 : ∀ H, SqT K H A2 []) : FnOk P w K mg base (L2N.CX P w) 7 f fd nWith (spWith0 K C A0 A1 A2) := by
  obtain ⟨gF, fI, fdI, M, FI, hb⟩ := M
  refine F.ok scWith (fun vs H Q E h => ?_) (fun cdv A outer s H vs Q E hr h => ?_)
  · obtain ⟨p, v1, v2, v3, ps, qs, rs, rfl, _⟩ := h
    rfl
  · obtain ⟨p, v1, v2, v3, ps, qs, rs, rfl, Fr, g, good⟩ := h
    refine ⟨_, pss_cons (ps_if (PW.pt (pw_or (pt_not (pt_val (pe_callB call_isi (by rfl) B.isinstance (by decide +kernel) (pa_cons (pv 1) (pa_cons (pe_bltn (v := .ty "tuple") (by rfl) B.tuple (by decide +kernel) rfl) pa_nil)))))
          (pw_or (pt_not (pt_val (pe_callB call_isi (by rfl) B.isinstance (by decide +kernel) (pa_cons (pv 2) (pa_cons (pe_bltn (v := .ty "tuple") (by rfl) B.tuple (by decide +kernel) rfl) pa_nil)))))
          (pw_or1 (pt_not (pt_val (pe_callB call_isi (by rfl) B.isinstance (by decide +kernel) (pa_cons (pv 3) (pa_cons (pe_bltn (v := .ty "tuple") (by rfl) B.tuple (by decide +kernel) rfl) pa_nil)))))))))
        (pss_one ps_never) pss_nil)
      (pss_one (ps_ret (pe_makeS M FI hr (by rfl) gF hb (fun σ => L2N.passAt (W := fun cls d _ H => E cls d H) (L2N.takes_of rfl rfl rfl rfl) σ)
        (pa_cons (pe_op op_catA (pe_fld (pv 0) rfl) (pv 1)) (pa_cons (pe_op op_catA (pe_fld (pv 0) rfl) (pv 2)) (pa_cons (pe_op op_catA (pe_fld (pv 0) rfl) (pv 3)) pa_nil)))))), ?_⟩
    refine ⟨.ref A0, rfl, .ref A0, .ty "tuple", _, _, true, rfl, .ty _, sqt_ty (t0 H), kit_ty (kit_tup (.tuple [])), true, rfl, ?_⟩
    refine ⟨.ref A1, rfl, .ref A1, .ty "tuple", _, _, true, rfl, .ty _, sqt_ty (t1 H), kit_ty (kit_tup (.tuple [])), true, rfl, ?_⟩
    refine ⟨.ref A2, rfl, .ref A2, .ty "tuple", _, _, true, rfl, .ty _, sqt_ty (t2 H), kit_ty (kit_tup (.tuple [])), true, rfl, ?_⟩
    obtain ⟨dx, t, d2, e4, ob, _⟩ := id Fr.ob
    have l1 := g.l1
    have l2 := g.l2
    have l3 := g.l3
    obtain ⟨a1, xs, rfl, ea, sa⟩ := shw_tup Fr.ar
    obtain ⟨a2, rfl, eb⟩ := id Fr.po
    obtain ⟨a3, rfl, ec⟩ := id Fr.va
    have lx := ShwAll.len sa
    rw [List.length_map] at lx
    refine ⟨.ref p, rfl, p, C, dx, _, .ref a1, rfl, ob, T.cl, T.no _ (by decide +kernel), lookup_zip (i := 0) (by decide +kernel) rfl, .ref A0, rfl, cat0 (SqT.of ea) (t0 H) (by omega) fun r1 h1 => ?_⟩
    refine ⟨.ref p, rfl, p, C, dx, _, .ref a2, rfl, ob, T.cl, T.no _ (by decide +kernel), lookup_zip (i := 1) (by decide +kernel) rfl, .ref A1, rfl, cat0 (SqT.of eb) (t1 H) (by rw [List.length_map]; omega) fun r2 h2 => ?_⟩
    refine ⟨.ref p, rfl, p, C, dx, _, .ref a3, rfl, ob, T.cl, T.no _ (by decide +kernel), lookup_zip (i := 2) (by decide +kernel) rfl, .ref A2, rfl, cat0 (SqT.of ec) (t2 H) (by rw [List.length_map]; omega) fun r3 h3 => ?_⟩
    have z1 := arr0 (K := K) (SqT.of ea) sa (t0 H) h1
    have z2 := txt0 (K := K) (SqT.of eb) (t1 H) h2
    have z3 := txt0 (K := K) (SqT.of ec) (t2 H) h3
    intro x dx' nx ndx ne
    have sm := (same_upd (p := dx') (o := .own x) ndx).trans (same_upd (p := x) (o := .ins C dx' []) (by rw [upd_ne ne.symm]; exact nx))
    refine ⟨x, dx', .ref r1, .ref r2, .ref r3, ps, qs, rs, rfl, upd_same, z1.same sm, z2.sm sm, z3.sm sm, g, fun H' kp Fr' => ⟨rfl, ?_⟩⟩
    exact good x _ _ _ H' (fun b o e => kp b o (sm _ _ e) (ne_of_none e nx)) Fr'
theorem FrameK.dp {C p a : Addr} {H : Hp} {v1 v2 v3 : V} {ps : List (Str × Str)} {qs rs : List Str} (f : FrameK C K H p v1 v2 v3 ps qs rs) (o : okF ps qs rs) (h : H a = some (.tup [v1, v2, v3])) : Dp K H (.ref a) (frD ps qs rs) := by
  obtain ⟨a1, xs, rfl, ea, sa⟩ := f.ar
  obtain ⟨a2, rfl, eb⟩ := f.po
  obtain ⟨a3, rfl, ec⟩ := f.va
  have st : ∀ zs : List Str, DpAll K H (zs.map V.str) (zs.map PyData.str) := fun zs => by
    induction zs with
    | nil => exact .nil
    | cons z zs ih => exact .cons (.str z) ih
  exact .tup (SqT.of h) (.cons (.tup ea (ShwAll.dp (prs_lay o.1 o.2.1) sa)) (.cons (.tup eb (st qs)) (.cons (.tup ec (st rs)) .nil)))
theorem FrameK.same {C p : Addr} {H H' : Hp} {v1 v2 v3 : V} {ps : List (Str × Str)} {qs rs : List Str} (f : FrameK C K H p v1 v2 v3 ps qs rs) (s : Same H H') : FrameK C K H' p v1 v2 v3 ps qs rs := by
  obtain ⟨⟨dx, t, d, e, ob⟩, h1, h2, h3⟩ := f
  exact ⟨⟨dx, t, d, e, s _ _ ob⟩, h1.same s, h2.sm s, h3.sm s⟩
theorem ok_eqK {f C : Addr} {fd : FuncData} (F : Fun K "__eq__" "Frame.__eq__" sEq f fd) (T : FrTxt K mg C) (S : FrIs K mg C) (B : Free mg) : FnOk P w K mg base CX0 1 f fd ["self", "other"] (spEqK K C) := by
  refine F.ok scEq (fun vs H Q E h => ?_) (fun cdv A outer s H vs Q E hr h => ?_)
  · obtain ⟨p, q, v1, v2, v3, w1, w2, w3, ps, qs, rs, rfl, _⟩ := h
    rfl
  · obtain ⟨p, q, v1, v2, v3, w1, w2, w3, ps, qs, rs, rfl, Fr, Fr', o, k⟩ := h
    refine ⟨_, pss_cons (ps_if (pt_not (pt_val (pe_callB call_isi (by rfl) B.isinstance (by decide +kernel) (pa_cons (pv 1) (pa_cons (pe_glob (v := .ref C) (by rfl) S.gF rfl) pa_nil))))) (pss_one (ps_ret pe_bl)) pss_nil)
      (pss_one (ps_ret (pe_cmpR (op_eqD hr.units) (pe_tup (pa_cons (pe_fld (pv 0) rfl) (pa_cons (pe_fld (pv 0) rfl) (pa_cons (pe_fld (pv 0) rfl) pa_nil))))
        (pe_tup (pa_cons (pe_fld (pv 1) rfl) (pa_cons (pe_fld (pv 1) rfl) (pa_cons (pe_fld (pv 1) rfl) pa_nil)))) (nomark _)))), ?_⟩
    obtain ⟨dx, t, d2, e, ob⟩ := id Fr.ob
    obtain ⟨dx', t', d2', e', ob', _⟩ := id Fr'.ob
    refine ⟨.ref q, rfl, .ref q, .ref C, _, _, true, rfl, .own C, .base (.ins ob' T.cl S.ha S.hn S.ht S.hm), S.kT, true, rfl, ?_⟩
    show if (!true) = true then _ else _
    refine iteF ?_
    refine ⟨.ref p, rfl, p, C, dx, _, v1, rfl, ob, T.cl, T.no _ (by decide +kernel), lookup_zip (i := 0) (by decide +kernel) rfl, .ref p, rfl, p, C, dx, _, v2, rfl, ob, T.cl, T.no _ (by decide +kernel), lookup_zip (i := 1) (by decide +kernel) rfl,
      .ref p, rfl, p, C, dx, _, v3, rfl, ob, T.cl, T.no _ (by decide +kernel), lookup_zip (i := 2) (by decide +kernel) rfl, (by rw [sizeLine_eq]; show 3 ≤ 16777216; decide), fun a na => ?_⟩
    have sa := same_upd (p := a) (o := .tup [v1, v2, v3]) na
    have ob2 := sa _ _ ob'
    refine ⟨.ref q, rfl, q, C, dx', _, w1, rfl, ob2, T.cl, T.no _ (by decide +kernel), lookup_zip (i := 0) (by decide +kernel) rfl, .ref q, rfl, q, C, dx', _, w2, rfl, ob2, T.cl, T.no _ (by decide +kernel), lookup_zip (i := 1) (by decide +kernel) rfl,
      .ref q, rfl, q, C, dx', _, w3, rfl, ob2, T.cl, T.no _ (by decide +kernel), lookup_zip (i := 2) (by decide +kernel) rfl, (by rw [sizeLine_eq]; show 3 ≤ 16777216; decide), fun b nb => ?_⟩
    have sb := same_upd (p := b) (o := .tup [w1, w2, w3]) nb
    have z := fr_shaped o.1 o.2.1 o.2.2.1 o.2.2.2
    have f1 := (Fr.same (sa.trans sb)).dp o (a := a) (sb _ _ upd_same)
    have f2 := (Fr'.same (sa.trans sb)).shw (a := b) upd_same
    refine ⟨_, _, f1, Shw.dp (SeqAt.canLay_of_shaped z) f2, z, z, ?_⟩
    rw [eqv_frD]
    exact k _ (sa.trans sb)
end
/-- what the end of _law_right calls, too -/
structure RF2 (P : Program) (w : World) (K : PySem.W.Frag) (mg : Str → Option Value) (base : Heap) (C CO A0 A1 A2 : Addr) : Prop where
  wi0 : OMD P w K mg base (L2N.CX P w) 7 C "with_names" nWith (spWith0 K C A0 A1 A2) [.ref A0, .ref A1, .ref A2]
  ren : OM P w K mg base (L2.CX P w) 8 C "renamed" ["self", "names"] (spRen C CO)
  eqK : OM P w K mg base CX0 1 C "__eq__" ["self", "other"] (spEqK K C)
section
variable {P : Program} {w : World} {K : PySem.W.Frag} {mg : Str → Option Value} {base : Heap} {C CO A0 A1 A2 f : Addr} {cdv : Value} {A : Around} {outer : List Env} {s0 : Shared} {H0 : Hp} {E : XK} {k : Nat}
def rt4 (C : Addr) : TS := fun D σ H => ∃ (a l p E : Addr) (u1 u2 u3 v1 v2 v3 : V) (ps : List (Str × Str)) (qs rs : List Str) (o4 o5 o6 o7 o8 o9 : Option V), σ = StW a l p E o4 o5 o6 o7 o8 o9 ∧ FrameAt C H p u1 u2 u3 ps qs rs ∧ GoodQ ps qs rs ∧ ∀ H', Same H H' → D.rt (.bl true) H'
theorem rgt4 (R : RF P w K mg base C) (R2 : RF2 P w K mg base C CO A0 A1 A2) (hr : Room k (A.deeper (envOfC "_law_right" (defScope sRt) s0.heap.objs.size f cdv))) (hk : 9 ≤ k) : PS (RX P w K mg base f cdv A outer s0 H0 E).nox (stR 4) (rt4 C) := by
  refine ps_imp (ps_ret (pe_and (pe_cmpR (R2.eqK.eq' hr (by omega)) (pe_omd0 (pl := _) R2.wi0 R.T.cl hr (by omega) passLN (pv 2)) (pv 2) (nomark _))
    (pe_one (pe_cmpR (R.eq.eq' hr (by omega)) (pe_om (pl := _) R2.ren R.T.cl hr (by omega) passL0 (pv 2) (pa_cons pe_dnewK pa_nil)) (pv 2) (nomark _))))) ?_
  rintro D σ H ⟨a, l, p, E, u1, u2, u3, v1, v2, v3, ps, qs, rs, o4, o5, o6, o7, o8, o9, rfl, Fr, g, q⟩
  obtain ⟨dx, t, d2, e4, ob, _⟩ := id Fr.ob
  have o := g.okF
  refine ⟨.ref p, rfl, p, dx, _, rfl, ob, lookup_zip_none (by decide +kernel), p, u1, u2, u3, ps, qs, rs, rfl, Fr, g, fun p' x1 x2 x3 H1 s1 F1 => ?_⟩
  obtain ⟨dx1, _, _, _, ob1⟩ := id F1.ob
  have Fr1 := Fr.same s1
  have ob' := s1 _ _ ob
  refine ⟨.ref p, rfl, p', dx1, _, _, rfl, ob1, .ins ob', R.nfC, p', p, x1, x2, x3, u1, u2, u3, ps, qs, rs, rfl, F1, Fr1, o, fun H2 s2 => ⟨_, rfl, _, rfl, ?_⟩⟩
  refine iteT' rfl ?_
  have s12 := s1.trans s2
  have ob2 := s12 _ _ ob
  refine ⟨.ref p, rfl, p, dx, _, rfl, ob2, lookup_zip_none (by decide +kernel), fun e ne => ?_⟩
  have se := same_upd (p := e) (o := .dK []) ne
  have s13 := s12.trans se
  refine ⟨p, e, u1, u2, u3, ps, qs, rs, [], rfl, ⟨Fr.same s13, upd_same, by decide, (fun c hc => nomatch hc), g⟩, fun z H' w' => ?_, fun z p3 y1 y2 y3 H3 s3 F3 => ?_⟩
  · rw [ren_id] at z
    have nn : nodupW (wordsOf ps qs rs) = true := by
      unfold nodupW
      rw [onceS_id g.nd]
      exact decide_eq_true rfl
    rw [nn] at z
    cases z
  · rw [renP_id, ren_id, ren_id] at F3
    have s14 := s13.trans s3
    obtain ⟨dx3, _, _, _, ob3, _⟩ := id F3.ob
    refine ⟨.ref p, rfl, p3, dx3, _, _, rfl, ob3, .ins (s14 _ _ ob), R.nfC, p3, p, y1, y2, y3, _, _, _, rfl, F3, .inr ⟨u1, u2, u3, _, _, _, Fr.same s14, o, o, fun H4 s4 => ⟨_, rfl, ?_⟩⟩⟩
    rw [eqv_frD]
    exact q H4 (s14.trans s4)
def spRight : Sp := fun vs H Q _ => ∃ (a : Addr) (x y c : Int), vs = [.ref a] ∧ H a = some (crl x y c) ∧ Cr x y c ∧ c ≤ 600000 ∧ ∀ (H' : Hp), Grw a H H' → Q (.bl true) H'
theorem Kp2.grow {a E : Addr} {H H1 H2 : Hp} (g : Grw a H H1) (n : H E = none) (k : Kp2 a E H1 H2) : Grw a H H2 := fun b o nb e => k b o nb (ne_of_none e n) (g b o nb e)
theorem ok_right {fd : FuncData} (F : Fun K "_law_right" "_law_right" sRt f fd) (R : RF P w K mg base C) (R2 : RF2 P w K mg base C CO A0 A1 A2) : RunG P w K mg base 10 f fd ["_law_creel_here"] spRight := by
  refine K02.Fun.okG F scRt (fun cdv A outer s H vs Q E hG hr h => ?_)
  refine ⟨_, PSs.nox (pss_cons (rgt0 (E := E) R hr (by omega)) (pss_cons (rgt1 (E := E) R hr (by omega)) (pss_cons (rgt2 (E := E) R hG hr (by omega)) (pss_cons (rgt3 (E := E) R hr (by omega)) (pss_one (rgt4 (E := E) R R2 hr (by omega))))))), ?_⟩
  obtain ⟨a, x, y, c, rfl, ha, C1, hc, q⟩ := h
  refine ⟨a, x, y, c, rfl, ha, C1, hc, fun l v1 v2 v3 ps qs rs x1 c1 H1 pq la ha1 C2 hc1 g1 => ?_⟩
  refine ⟨a, l, x1, y, c1, v1, v2, v3, ps, qs, rs, rfl, ha1, pq, la, fun p E u1 u2 u3 H2 s2 nE ri => ?_⟩
  have ha2 := s2 _ _ ha1
  refine ⟨a, l, p, E, x1, y, c1, u1, u2, u3, v1, v2, v3, ps, qs, rs, rfl, ha2, C2, by omega, ri, fun l' p' es w1 w2 w3 z1 z2 z3 ps' qs' rs' o4 o5 o6 x3 c3 H3 le ri3 ha3 C3 hc3 kp => ?_⟩
  refine ⟨a, l', p', E, es, x3, y, c3, w1, w2, w3, z1, z2, z3, ps', qs', rs', o4, o5, o6, rfl, ha3, le, ri3, fun o7 o8 o9 H4 s4 => ?_⟩
  refine ⟨a, l', p', E, w1, w2, w3, z1, z2, z3, ps', qs', rs', o4, o5, o6, o7, o8, o9, rfl, ri3.Fr.same s4, ri3.pq.g, fun H5 s5 => ?_⟩
  exact q H5 fun b o nb e => s5 _ _ (s4 _ _ (kp b o nb (ne_of_none (g1 b o nb e) nE) (s2 _ _ (g1 b o nb e))))
end
end K02

set_option autoImplicit false
set_option maxRecDepth 100000
set_option maxHeartbeats 4000000
/-! the law -/
namespace K02
open PySem PySem.Spec PyProof.Rows L2 KX
abbrev sLaw : Stmt := topS 50
abbrev NL : List Str := ["_law_script", "_law_at", "_law_frame_here", "_law_told"]
theorem scLaw : FnScope NL ["_law_script"] (defScope sLaw) := ⟨rfl, rfl, rfl, by decide +kernel, rfl, by decide +kernel, by decide +kernel⟩
def stL (i : Nat) : Stmt := (defBody sLaw).getD i (.Pass ⟨0, 0, 0, 0⟩)
structure LG (P : Program) (w : World) (K : PySem.W.Frag) (mg : Str → Option Value) (base : Heap) (C CO CI CT T0 : Addr) : Prop where
  T : FrTxt K mg C
  B : Free mg
  mMax : mg "max" = none
  mMin : mg "min" = none
  creel : Fnc P w K mg base CX0 1 "_law_creel" ["_law_script", "_law_at"] (spCreel K)
  right : FncG P w K mg base 10 "_law_right" ["_law_creel_here"] spRight
  mkf : MkF P w K mg base C CI
  ren : OM P w K mg base (L2.CX P w) 8 C "renamed" ["self", "names"] (spRen C CO)
  str : OM P w K mg base CX0 3 C "__str__" ["self"] (spStr C)
  sh : OM P w K mg base (L2.CX P w) 6 C "shifted" ["self", "term", "shift"] (spShift C CT)
  isP0 : OMD P w K mg base CX0 4 C "is_position_term" ["self", "value", "own"] (spIsT K C isPos) [.ref T0]
  t0 : ∀ H, SqT K H T0 []
abbrev LX (P : Program) (w : World) (K : PySem.W.Frag) (mg : Str → Option Value) (base : Heap) (f : Addr) (cdv : Value) (A : Around) (outer : List Env) (s0 : Shared) (H0 : Hp) (E : XK) : Cx := cxOf CX0 P w K mg base NL "law" (defScope sLaw) f cdv A outer s0 H0 E
def ScP (K : PySem.W.Frag) (a : Addr) (xs : List V) (p : Addr) (H : Hp) : Prop := SqL K (fun _ => none) a xs ∨ (a ≠ p ∧ Rd H a (.lst xs))
theorem sc_new {K : PySem.W.Frag} {a p : Addr} {xs : List V} {H : Hp} {o : HO} (s : SqL K H a xs) (n : H p = none) : ScP K a xs p (upd H p o) := by
  rcases s with h | h
  · by_cases e : a = p
    · subst e
      rcases h with h | ⟨x, h⟩ <;> (rw [n] at h; cases h)
    · refine .inr ⟨e, ?_⟩
      rcases h with h | ⟨x, h⟩
      · exact .inl (by rw [upd_ne e]; exact h)
      · exact .inr ⟨x, by rw [upd_ne e]; exact h⟩
  · exact .inl (.inr h)
theorem sc_sql {K : PySem.W.Frag} {a p : Addr} {xs : List V} {H : Hp} (s : ScP K a xs p H) : SqL K H a xs := by
  rcases s with h | ⟨_, h⟩
  · rcases h with h | h
    · rcases h with h | ⟨x, h⟩ <;> cases h
    · exact .inr h
  · exact .inl h
theorem sc_keep {K : PySem.W.Frag} {a p : Addr} {xs : List V} {H H' : Hp} (s : ScP K a xs p H) (g : Grw p H H') : ScP K a xs p H' := by
  rcases s with h | ⟨n, h⟩
  · exact .inl h
  · refine .inr ⟨n, ?_⟩
    rcases h with h | ⟨x, h⟩
    · exact .inl (g _ _ n h)
    · exact .inr ⟨x, g _ _ n h⟩
def psL : List (Str × Str) := [("a", "n"), ("b", "n"), ("c", "m")]
def qsL : List Str := ["i"]
def rsL : List Str := []
def csL : List (Str × Str) := [("n", "i"), ("i", "n"), ("a", "b"), ("b", "a")]
theorem gL : GoodQ psL qsL rsL := GoodQ.of ⟨by decide +kernel, by decide +kernel, by decide +kernel⟩ (by decide +kernel)
theorem cL : ∀ c ∈ csL, c.1 ∈ wordsOf psL qsL rsL ∧ c.2 ∈ W18 := by decide +kernel
theorem nL : nodupW ((wordsOf psL qsL rsL).map (ren csL)) = true := by decide +kernel
theorem tL : frT (psL.map (renP csL)) (qsL.map (ren csL)) (rsL.map (ren csL)) = "b:i a:i c:m | n | -" := by decide +kernel
def dL : PyData := .tuple [.str "a", .str "i", .int 2, .int (-1)]
def dM : PyData := .tuple [.str "a", .str "i", .int 2, .int 2]
theorem sL : (isTrm psL qsL rsL dL && isTrm psL qsL rsL (upD 3 dL)) = true := by decide +kernel
theorem pL : isPos psL qsL rsL [] (.tuple [.str "m", .int (-4)]) = true := by decide +kernel
section
variable {P : Program} {w : World} {K : PySem.W.Frag} {mg : Str → Option Value} {base : Heap} {C CO CI CT T0 f : Addr} {cdv : Value} {A : Around} {outer : List Env} {s0 : Shared} {H0 : Hp} {E : XK} {k : Nat}
def l0 (K : PySem.W.Frag) : TS := fun D σ H => ∃ (a : Addr) (ns : List Int), σ = [some (.ref a), none, none, none] ∧ SqL K H a (ns.map V.int) ∧ ns.length ≤ 63 ∧ ∀ (H' : Hp) (r1 : Option V), D.nx [some (.ref a), r1, none, none] H'
theorem law0 (R : LG P w K mg base C CO CI CT T0) (hG : (A.deeper (envOfC "law" (defScope sLaw) s0.heap.objs.size f cdv)).guards = some []) (hr : Room k (A.deeper (envOfC "law" (defScope sLaw) s0.heap.objs.size f cdv))) (hk : 10 ≤ k) : PS (LX P w K mg base f cdv A outer s0 H0 E).nox (stL 0) (l0 K) := by
  refine ps_imp (ps_for PassesOwn.never rfl (pi_range1 (by rfl) R.B.range (pa_cons (pe_callB (call_max2 rfl) (by rfl) R.mMax (by decide +kernel) (pa_cons pe_int (pa_cons (pe_callB (call_min2 rfl) (by rfl) R.mMin (by decide +kernel) (pa_cons pe_int (pa_cons (pe_callB call_len_seq (by rfl) R.B.len PySem.boot_len (pa_cons (pv 0) pa_nil)) pa_nil))) pa_nil))) pa_nil))
        (pg_name (i := 1) scLaw.nd rfl (Or.inl rfl))
        (pss_one (ps_if (pt_not (pt_val (pe_fncG R.right hG hr (by omega) (by rfl) (pa_cons (pe_fnc R.creel hr (by omega) (by rfl) pass0 (pa_cons (pv 0) (pa_cons (pv 1) pa_nil))) pa_nil)))) (pss_one (ps_ret pe_bl)) pss_nil))) ?_
  rintro D σ H ⟨a, ns, rfl, hS, h63, q⟩
  have n1 : ∀ m : Nat, (if (if (m : Int) < 3 then (m : Int) else 3) > 1 then (if (m : Int) < 3 then (m : Int) else 3) else 1) ≤ 3 ∧ 0 ≤ (if (if (m : Int) < 3 then (m : Int) else 3) > 1 then (if (m : Int) < 3 then (m : Int) else 3) else 1) := fun m => by
    split <;> split <;> omega
  obtain ⟨j1, j0⟩ := n1 (ns.map V.int).length
  refine ⟨.ref a, rfl, a, ns.map V.int, rfl, .inl hS, 3, _, rfl, 1, _, rfl, _, rfl, by omega, by omega, ?_⟩
  generalize (if (if (((ns.map V.int).length : Nat) : Int) < 3 then (((ns.map V.int).length : Nat) : Int) else 3) > 1 then (if (((ns.map V.int).length : Nat) : Int) < 3 then (((ns.map V.int).length : Nat) : Int) else 3) else 1) = j at j0 j1 ⊢
  refine for_range (fun _ σ' H' => (∃ r1, σ' = [some (.ref a), r1, none, none]) ∧ SqL K H' a (ns.map V.int)) ⟨⟨none, rfl⟩, hS⟩ (fun i σ' H1 hi hP => ?_) (fun σ' H1 hP => ?_)
  · obtain ⟨⟨r1, rfl⟩, S1⟩ := hP
    refine ⟨.ref a, rfl, _, rfl, a, ns, 0 + (i : Int), rfl, S1, h63, by omega, by omega, fun p x y C np => ?_⟩
    refine ⟨rfl, p, x, y, 0, rfl, upd_same, C, by omega, fun H' g' => ⟨_, rfl, ?_⟩⟩
    exact iteF' rfl ⟨⟨_, rfl⟩, sc_sql (sc_keep (sc_new S1 np) g')⟩
  · obtain ⟨⟨r1, rfl⟩, S1⟩ := hP
    exact q H1 r1
def l1 (C : Addr) : TS := fun D σ H => ∃ (a : Addr) (r1 : Option V), σ = [some (.ref a), r1, none, none] ∧ ∀ (H' : Hp) (p : Addr) (u1 u2 u3 : V), Same H H' → FrameAt C H' p u1 u2 u3 psL qsL rsL → D.nx [some (.ref a), r1, some (.ref p), none] H'
theorem law1 (R : LG P w K mg base C CO CI CT T0) (hr : Room k (A.deeper (envOfC "law" (defScope sLaw) s0.heap.objs.size f cdv))) (hk : 10 ≤ k) : PS (LX P w K mg base f cdv A outer s0 H0 E).nox (stL 1) (l1 C) := by
  obtain ⟨gF, fI, fdI, M, FI, hb⟩ := R.mkf
  refine ps_imp (ps_set (i := 2) scLaw.nd rfl (.inl rfl) (pe_make M FI (hr.mono (show 6 ≤ k by omega)) (by rfl) gF hb .nil passLN
    (pa_cons (pe_tup (pa_cons (pe_tup (pa_cons pe_str (pa_cons pe_str pa_nil))) (pa_cons (pe_tup (pa_cons pe_str (pa_cons pe_str pa_nil))) (pa_cons (pe_tup (pa_cons pe_str (pa_cons pe_str pa_nil))) pa_nil)))) (pa_cons (pe_tup (pa_cons pe_str pa_nil)) (pa_cons (pe_tup pa_nil) pa_nil))))) ?_
  rintro D σ H ⟨a, r1, rfl, q⟩
  refine ⟨by rw [sizeLine_eq]; show 2 ≤ 16777216; decide, fun t1 n1 => ⟨by rw [sizeLine_eq]; show 2 ≤ 16777216; decide, fun t2 n2 => ⟨by rw [sizeLine_eq]; show 2 ≤ 16777216; decide, fun t3 n3 => ⟨by rw [sizeLine_eq]; show 3 ≤ 16777216; decide, fun t4 n4 => ⟨by rw [sizeLine_eq]; show 1 ≤ 16777216; decide, fun t5 n5 => ⟨by rw [sizeLine_eq]; decide, fun t6 n6 => ?_⟩⟩⟩⟩⟩⟩
  have e1 := same_upd (p := t1) (o := .tup [.str "a", .str "n"]) n1
  have e2 := same_upd (p := t2) (o := .tup [.str "b", .str "n"]) n2
  have e3 := same_upd (p := t3) (o := .tup [.str "c", .str "m"]) n3
  have e4 := same_upd (p := t4) (o := .tup [.ref t1, .ref t2, .ref t3]) n4
  have e5 := same_upd (p := t5) (o := .tup [.str "i"]) n5
  have e6 := same_upd (p := t6) (o := .tup []) n6
  intro x dx nx ndx ne
  have sm := (same_upd (p := dx) (o := .own x) ndx).trans (same_upd (p := x) (o := .ins C dx []) (by rw [upd_ne ne.symm]; exact nx))
  have f6 := e6.trans sm
  have f5 := e5.trans f6
  have f4 := e4.trans f5
  have f3 := e3.trans f4
  have f2 := e2.trans f3
  have f1 := e1.trans f2
  have y1 : Arr _ (.ref t4) psL := .tup (f5 _ _ upd_same) (.cons (.tup (f2 _ _ upd_same) (.cons (.str _) (.cons (.str _) .nil))) (.cons (.tup (f3 _ _ upd_same) (.cons (.str _) (.cons (.str _) .nil))) (.cons (.tup (f4 _ _ upd_same) (.cons (.str _) (.cons (.str _) .nil))) .nil)))
  have y2 : Txts _ (.ref t5) qsL := ⟨t5, rfl, f6 _ _ upd_same⟩
  have y3 : Txts _ (.ref t6) rsL := ⟨t6, rfl, sm _ _ upd_same⟩
  refine ⟨x, dx, .ref t4, .ref t5, .ref t6, _, _, _, rfl, upd_same, y1, txts_shw y2, txts_shw y3, gd_prs18 (by decide) gL.w.m1, gd_strs18 (by decide) gL.w.m2, gd_strs18 (by decide) gL.w.m3, fun z H' w' => ?_, fun z H' kp Fr' => ⟨rfl, ?_⟩⟩
  · rw [gL.frame] at z
    cases z
  · rw [prs_back, strs_back, strs_back] at Fr'
    exact q H' x _ _ _ (fun b o e => kp b o (f1 _ _ e) (ne_of_none ((((((e1.trans e2).trans e3).trans e4).trans e5).trans e6) _ _ e) nx)) Fr'
def l2 (C : Addr) : TS := fun D σ H => ∃ (a p : Addr) (r1 : Option V) (u1 u2 u3 : V), σ = [some (.ref a), r1, some (.ref p), none] ∧ FrameAt C H p u1 u2 u3 psL qsL rsL ∧ ∀ (H' : Hp) (L : Addr) (v : V), Same H H' → H' L = some (.lst [.str "b:i a:i c:m | n | -", v]) → Shw H' v dM → D.nx [some (.ref a), r1, some (.ref p), some (.ref L)] H'
theorem law2 (R : LG P w K mg base C CO CI CT T0) (hr : Room k (A.deeper (envOfC "law" (defScope sLaw) s0.heap.objs.size f cdv))) (hk : 10 ≤ k) : PS (LX P w K mg base f cdv A outer s0 H0 E).nox (stL 2) (l2 C) := by
  refine ps_imp (ps_set (i := 3) scLaw.nd rfl (.inl rfl) (pe_lst (pa_cons (pe_callTy (R.str.str hr (by omega) pass0) (by rfl) R.B.str (by decide +kernel) (pa_cons (pe_om (pl := _) R.ren R.T.cl hr (by omega) passL0 (pv 2) (pa_cons (pe_disp (pps_cons pe_str pe_str (pps_cons pe_str pe_str (pps_cons pe_str pe_str (pps_cons pe_str pe_str pps_nil)))) (by rfl) (by rfl) (by nofun) (by decide)) pa_nil)) pa_nil))
    (pa_cons (pe_om (pl := _) R.sh R.T.cl hr (by omega) passL0 (pv 2) (pa_cons (pe_tup (pa_cons pe_str (pa_cons pe_str (pa_cons pe_int (pa_cons (pe_un un_neg pe_int) pa_nil))))) (pa_cons pe_int pa_nil))) pa_nil)))) ?_
  rintro D σ H ⟨a, p, r1, u1, u2, u3, rfl, Fr, q⟩
  obtain ⟨dx, t, d2, e4, ob, _⟩ := id Fr.ob
  refine ⟨.ref p, rfl, p, dx, _, rfl, ob, lookup_zip_none (by decide +kernel), fun e ne => ⟨upd_same, lenK csL, rfl, by decide, ?_⟩⟩
  have em : mergeK [] (lenK csL) = lenK csL := by decide +kernel
  rw [em]
  have se : Same H (upd (upd H e (.dK [])) e (.dK (lenK csL))) := fun b o eb => by
    have n := ne_of_none eb ne
    rw [upd_ne n, upd_ne n]
    exact eb
  have he : (upd (upd H e (.dK [])) e (.dK (lenK csL))) e = some (.dK (lenK csL)) := upd_same
  generalize upd (upd H e (.dK [])) e (.dK (lenK csL)) = H1 at se he ⊢
  refine ⟨p, e, u1, u2, u3, psL, qsL, rsL, csL, rfl, ⟨Fr.same se, he, by decide, cL, gL⟩, fun z => ?_, fun z p' x1 x2 x3 H2 s2 Fr2 => ?_⟩
  · rw [nL] at z
    cases z
  · obtain ⟨dx2, _, _, _, ob2, _⟩ := id Fr2.ob
    have g2 := GoodQ.ren gL (fun c hc => (cL c hc).2) z
    obtain ⟨t1, t2, t3, t4⟩ := g2.txt
    have l1 := g2.l1
    have l2 := g2.l2
    have l3 := g2.l3
    refine ⟨p', dx2, _, rfl, ob2, p', x1, x2, x3, _, _, _, rfl, Fr2, by omega, by omega, by omega, t1, t2, t3, t4, fun H3 s3 => ⟨_, rfl, ?_⟩⟩
    rw [tL]
    have s13 := se.trans (s2.trans s3)
    refine ⟨.ref p, rfl, p, dx, _, rfl, s13 _ _ ob, lookup_zip_none (by decide +kernel), 1, rfl, by rw [sizeLine_eq]; show 4 ≤ 16777216; decide, fun b nb => ?_⟩
    have sb := same_upd (p := b) (o := .tup [.str "a", .str "i", .int 2, .int (-1)]) nb
    have s14 := s13.trans sb
    refine ⟨p, u1, u2, u3, psL, qsL, rsL, .ref b, dL, 3, rfl, Fr.same s14, .tup upd_same (.cons (.str _) (.cons (.str _) (.cons (.int _) (.cons (.int _) .nil)))), by decide +kernel, fun z => ?_, fun z r H5 s5 sr => ?_⟩
    · rw [sL] at z
      cases z
    · refine ⟨by rw [sizeLine_eq]; show 2 ≤ 16777216; decide, fun L nL => ?_⟩
      have sl := same_upd (p := L) (o := .lst [.str "b:i a:i c:m | n | -", r]) nL
      exact q _ L r (s14.trans (s5.trans sl)) upd_same (Shw.same sr sl)
def l3 (C : Addr) : TS := fun D σ H => ∃ (a p L : Addr) (r1 : Option V) (v u1 u2 u3 : V), σ = [some (.ref a), r1, some (.ref p), some (.ref L)] ∧ FrameAt C H p u1 u2 u3 psL qsL rsL ∧ H L = some (.lst [.str "b:i a:i c:m | n | -", v]) ∧ Shw H v dM ∧ ∀ H', D.rt (.bl true) H'
theorem law3 (R : LG P w K mg base C CO CI CT T0) (hr : Room k (A.deeper (envOfC "law" (defScope sLaw) s0.heap.objs.size f cdv))) (hk : 10 ≤ k) : PS (LX P w K mg base f cdv A outer s0 H0 E).nox (stL 3) (l3 C) := by
  refine ps_imp (ps_ret (pe_and (pe_cmpR (op_eqD hr.units) (pv 3) (pe_lst (pa_cons pe_str (pa_cons (pe_tup (pa_cons pe_str (pa_cons pe_str (pa_cons pe_int (pa_cons pe_int pa_nil))))) pa_nil))) (nomark _))
    (pe_one (pe_omd (pl := _) R.isP0 R.T.cl hr (by omega) pass0 (pv 2) (pa_cons (pe_tup (pa_cons pe_str (pa_cons (pe_un un_neg pe_int) pa_nil))) pa_nil))))) ?_
  rintro D σ H ⟨a, p, L, r1, v, u1, u2, u3, rfl, Fr, hL, sv, q⟩
  obtain ⟨dx, t, d2, e4, ob, _⟩ := id Fr.ob
  refine ⟨.ref L, rfl, by rw [sizeLine_eq]; show 4 ≤ 16777216; decide, fun b nb => ⟨by rw [sizeLine_eq]; show 2 ≤ 16777216; decide, fun M nM => ?_⟩⟩
  have sb := same_upd (p := b) (o := .tup [.str "a", .str "i", .int 2, .int 2]) nb
  have sM := same_upd (p := M) (o := .lst [.str "b:i a:i c:m | n | -", .ref b]) nM
  have s2 := sb.trans sM
  have cl : PyData.canLay0 dM = true := by decide +kernel
  have sh : SeqAt.shaped (.list [.str "b:i a:i c:m | n | -", dM]) = true := by decide +kernel
  refine ⟨.list [.str "b:i a:i c:m | n | -", dM], .list [.str "b:i a:i c:m | n | -", dM], .lst (SqL.of (s2 _ _ hL)) (.cons (.str _) (.cons (Shw.dp cl (Shw.same sv s2)) .nil)), .lst (SqL.of upd_same) (.cons (.str _) (.cons (Shw.dp cl (.tup (sM _ _ upd_same) (.cons (.str _) (.cons (.str _) (.cons (.int _) (.cons (.int _) .nil)))))) .nil)), sh, sh, _, rfl, ?_⟩
  refine iteT' (by decide +kernel) ?_
  refine ⟨.ref p, rfl, p, dx, _, rfl, s2 _ _ ob, lookup_zip_none (by decide +kernel), 4, rfl, by rw [sizeLine_eq]; show 2 ≤ 16777216; decide, fun c nc => ?_⟩
  have sc := same_upd (p := c) (o := .tup [.str "m", .int (-4)]) nc
  refine ⟨p, u1, u2, u3, psL, qsL, rsL, .ref c, .tuple [.str "m", .int (-4)], .ref T0, [], rfl, Fr.same (s2.trans sc), .tup upd_same (.cons (.str _) (.cons (.int _) .nil)), ⟨T0, rfl, R.t0 _⟩, own_nil _, (fun z hz => nomatch hz), fun H' _ => ?_⟩
  rw [pL]
  exact q H'
def spLaw (K : PySem.W.Frag) : Sp := fun vs H Q _ => ∃ (a : Addr) (ns : List Int), vs = [.ref a] ∧ SqL K H a (ns.map V.int) ∧ ns.length ≤ 63 ∧ ∀ H', Q (.bl true) H'
theorem ok_law {fd : FuncData} (F : Fun K "law" "law" sLaw f fd) (R : LG P w K mg base C CO CI CT T0) : RunG P w K mg base 11 f fd ["_law_script"] (spLaw K) := by
  refine K02.Fun.okG F scLaw (fun cdv A outer s H vs Q E hG hr h => ?_)
  refine ⟨_, PSs.nox (pss_cons (law0 (E := E) R hG hr (by omega)) (pss_cons (law1 (E := E) R hr (by omega)) (pss_cons (law2 (E := E) R hr (by omega)) (pss_one (law3 (E := E) R hr (by omega)))))), ?_⟩
  obtain ⟨a, ns, rfl, hS, h63, q⟩ := h
  refine ⟨a, ns, rfl, hS, h63, fun H1 r1 => ⟨a, r1, rfl, fun H2 p u1 u2 u3 s2 Fr => ⟨a, p, r1, u1, u2, u3, rfl, Fr, fun H3 L v s3 hL sv => ⟨a, p, L, r1, v, u1, u2, u3, rfl, Fr.same s3, hL, sv, q⟩⟩⟩⟩
end
end K02

set_option autoImplicit false
set_option maxRecDepth 100000
set_option maxHeartbeats 4000000
/-! how the methods with keywords are bound -/
namespace K02
open PySem PySem.Spec PyProof.Rows L2 KX
section
variable {K : PySem.W.Frag} {f : Addr} {fd : FuncData} {v v1 v2 : V}
theorem isP_b0 (F : FunD K "is_position_term" "Frame.is_position_term" (defArgs sIsP) (defBody sIsP) (defScope sIsP) [] [("own", v)] f fd) : ∃ ds, Vals [v] ds ∧ Binds K fd ["self", "value", "own"] ds :=
  F.binds0 2 (by nofun) rfl fun D doc pm an cdv ct us ks h1 h2 => match us, ks, h1, h2 with
    | [a, b], [c], _, _ => ⟨_, _, _, _, _, _, rfl, rfl, rfl⟩
theorem isV_b0 (F : FunD K "is_value_term" "Frame.is_value_term" (defArgs sIsV) (defBody sIsV) (defScope sIsV) [] [("own", v)] f fd) : ∃ ds, Vals [v] ds ∧ Binds K fd ["self", "value", "own"] ds :=
  F.binds0 2 (by nofun) rfl fun D doc pm an cdv ct us ks h1 h2 => match us, ks, h1, h2 with
    | [a, b], [c], _, _ => ⟨_, _, _, _, _, _, rfl, rfl, rfl⟩
theorem with_b0 (F : FunD K "with_names" "Frame.with_names" (defArgs sWith) (defBody sWith) (defScope sWith) [] [("arrays", v), ("positions", v1), ("values", v2)] f fd) : ∃ ds, Vals [v, v1, v2] ds ∧ Binds K fd nWith ds :=
  F.binds0 1 (by nofun) rfl fun D doc pm an cdv ct us ks h1 h2 => match us, ks, h1, h2 with
    | [a], [b, c, d], _, _ => ⟨_, _, _, _, _, _, rfl, rfl, ⟨_, _, _, _, _, _, rfl, rfl, ⟨_, _, _, _, _, _, rfl, rfl, rfl⟩⟩⟩
theorem vals_app {vs zs : List V} {us ws : List Value} (h : Vals vs us) (h2 : Vals zs ws) : Vals (vs ++ zs) (us ++ ws) := by
  induction h with
  | nil => exact h2
  | cons a _ ih => exact .cons a ih
theorem isP_k (F : FunD K "is_position_term" "Frame.is_position_term" (defArgs sIsP) (defBody sIsP) (defScope sIsP) [] [("own", v)] f fd) : ∃ g, KBn K fd ["self", "value", "own"] 2 ["own"] g (fun vs zs => vs ++ zs) := by
  obtain ⟨mv, h⟩ := F.kbinds0 (ps := ["self", "value", "own"]) 2 ["own"] [] (fun us _ ws => us ++ ws) (by nofun) (fun _ h => nomatch h) (fun h _ h2 => vals_app h h2) fun D doc pm an cdv ct us mv ws h1 h2 h3 => match us, mv, ws, h1, h2, h3 with
    | [a, b], [], [c], _, _, _ => rfl
  exact ⟨_, h⟩
theorem isV_k (F : FunD K "is_value_term" "Frame.is_value_term" (defArgs sIsV) (defBody sIsV) (defScope sIsV) [] [("own", v)] f fd) : ∃ g, KBn K fd ["self", "value", "own"] 2 ["own"] g (fun vs zs => vs ++ zs) := by
  obtain ⟨mv, h⟩ := F.kbinds0 (ps := ["self", "value", "own"]) 2 ["own"] [] (fun us _ ws => us ++ ws) (by nofun) (fun _ h => nomatch h) (fun h _ h2 => vals_app h h2) fun D doc pm an cdv ct us mv ws h1 h2 h3 => match us, mv, ws, h1, h2, h3 with
    | [a, b], [], [c], _, _, _ => rfl
  exact ⟨_, h⟩
theorem gW_rel {vs zs : List V} {us ws : List Value} (h : Vals vs us) (h2 : Vals zs ws) : Vals (gWp vs zs) (gWp us ws) := by
  cases h2 with
  | nil => exact .nil
  | cons a h2 =>
    cases h2 with
    | nil => exact .nil
    | cons b h2 =>
      cases h2 with
      | nil => exact .nil
      | cons c h2 =>
        cases h2 with
        | nil => exact vals_app h (.cons b (.cons a (.cons c .nil)))
        | cons d h2 => exact .nil
theorem with_k (F : FunD K "with_names" "Frame.with_names" (defArgs sWith) (defBody sWith) (defScope sWith) [] [("arrays", v), ("positions", v1), ("values", v2)] f fd) : ∃ g, KBn K fd nWith 1 ["positions", "arrays", "values"] g gW := by
  obtain ⟨mv, h⟩ := F.kbinds0 (ps := nWith) 1 ["positions", "arrays", "values"] [] (fun us _ ws => gWp us ws) (by nofun) (fun _ h => nomatch h) (fun h _ h2 => gW_rel h h2) fun D doc pm an cdv ct us mv ws h1 h2 h3 => match us, mv, ws, h1, h2, h3 with
    | [a], [], [b, c, d], _, _, _ => rfl
  exact ⟨_, h⟩
theorem dfl1 {x : Str} {D T : Addr} (h : PySem.W.nsIn K D x = some (some (.ref T))) : KwdV K (.ref D) [(x, .ref T)] := .inr ⟨D, rfl, fun q hq => by
  rw [List.mem_singleton] at hq
  subst hq
  exact ⟨_, h, rfl⟩⟩
theorem dfl3 {x y z : Str} {D T U W : Addr} (h : PySem.W.nsIn K D x = some (some (.ref T))) (h2 : PySem.W.nsIn K D y = some (some (.ref U))) (h3 : PySem.W.nsIn K D z = some (some (.ref W))) : KwdV K (.ref D) [(x, .ref T), (y, .ref U), (z, .ref W)] := .inr ⟨D, rfl, fun q hq => by
  simp only [List.mem_cons, List.not_mem_nil, or_false] at hq
  rcases hq with rfl | rfl | rfl
  · exact ⟨_, h, rfl⟩
  · exact ⟨_, h2, rfl⟩
  · exact ⟨_, h3, rfl⟩⟩
theorem funD_mk {x qual : Str} {params : Arguments} {body : List Stmt} {scope : Scope} {kws : List (Str × V)} {oc : Value} {od an : Option Addr} {osl : Array (Option Value)} {kV doc pm cdv ct : Value}
    (l : K.lookup f = some ⟨oc, od, .func (PySem.W.fnOf x qual params body scope .none kV doc pm an cdv ct), osl⟩) (c : PySem.W.codeIn K cdv qual = true) (k : KwdV K kV kws) (kp : PySem.W.keepIn K (.ref f) = true) : FunD K x qual params body scope [] kws f (PySem.W.fnOf x qual params body scope .none kV doc pm an cdv ct) :=
  ⟨⟨oc, od, .none, kV, doc, pm, an, cdv, ct, osl, rfl, l, c, .inl ⟨rfl, rfl⟩, k⟩, kp⟩
theorem sqt0 {T : Addr} {od : Option Addr} {sl : Array (Option Value)} {n : Nat} (h : K.lookup T = some ⟨.type "tuple", od, .seq #[] n, sl⟩) : ∀ H, SqT K H T [] := fun H => .inr ⟨_, #[], n, h, rfl, rfl, by rw [sizeLine_eq]; decide, .nil⟩
end
end K02

set_option autoImplicit false
set_option maxRecDepth 100000
set_option maxHeartbeats 4000000
namespace K02
open PySem PySem.Spec PyProof.Rows L2 KX
open Classical in
/-- what is tracked at the law's call: the script, unless it is written at the top -/
noncomputable def entryH (K : PySem.W.Frag) (a : Addr) (u : HO) : Hp := fun b => if b = a ∧ K.lookup a = none then some u else none
section
variable {K : PySem.W.Frag} {a b : Addr} {u : HO}
theorem entry_some {z : HO} (e : entryH K a u b = some z) : b = a ∧ K.lookup a = none ∧ z = u := by
  unfold entryH at e
  by_cases h2 : b = a ∧ K.lookup a = none
  · rw [if_pos h2] at e
    exact ⟨h2.1, h2.2, (Option.some.inj e).symm⟩
  · rw [if_neg h2] at e
    cases e
end
section
variable {P : Program} {w : World} {K : PySem.W.Frag} {mg mb : Str → Option Value} {k : Nat} {fa a : Addr} {fd : FuncData} {x : Str} {sp : Sp} {s₁ : Shared} {vs : List Value} {ns : List Int}
theorem end_of (kin : K.In s₁.heap) (glob : s₁.heap.Ns mainGlobals mg) (bltn : s₁.heap.Ns builtinsNs mb) (same : ∀ y : Str, y ≠ "__name__" → mb y = bootBuiltins y) (lim : s₁.heap.NoLimit) (nog : s₁.gens = #[])
    (obj : s₁.heap.get? a = some { cls := .type "list", data := .seq vs.toArray }) (nums : IntsAre vs ns) (few : ns.length ≤ sizeLine) (room : Room k callerA)
    (run : ∀ base : Heap, K.In base → base.Ns mainGlobals mg → RunG P w K mg base k fa fd [x] sp) (binds : ∀ (s : Shared) (u : Value), BindsTo s fd ⟨[u], []⟩ [(x, u)])
    (want : ∀ H : Hp, SqL K H a (ns.map V.int) → sp [.ref a] H (fun v _ => v = .bl true) E0) :
    codeAny (model P w) callerA (.call (.ref fa) ⟨[.ref a], []⟩) (fun r s' => r = .ok (.ret (.bool true)) ∧ OldK s₁.heap s'.heap ∧ s'.os = s₁.os ∧ AllBare s'.gens) s₁ := by
  let lo : Obj := { cls := .type "list", data := .seq vs.toArray }
  let G : Hp := entryH K a (.frz lo (.lst (ns.map V.int)))
  have rel := vals_ints nums
  have ok : HOk P w G s₁.heap := fun b z e => by
    obtain ⟨rfl, _, rfl⟩ := entry_some e
    exact ⟨obj, by rw [List.length_map]; exact few, vs, _, rel, obj⟩
  have sees : SqL K G a (ns.map V.int) := by
    cases e : K.lookup a with
    | none => exact .inl (.inr ⟨lo, by show entryH K a _ a = _; unfold entryH; rw [if_pos ⟨rfl, e⟩]⟩)
    | some o =>
      have y := kin a o e
      rw [obj] at y
      cases y
      exact .inr ⟨_, vs.toArray, _, e, rfl, rfl, rfl, by rw [List.size_toArray, nums.length]; exact few, by simpa using rel⟩
  have untracked : ∀ {b : Addr} {o : Obj}, s₁.heap.get? b = some o → (∀ q m, o.data ≠ .seq q m) → G b = none := fun {b o} e n1 => by
    cases z : G b with
    | none => rfl
    | some u =>
      exfalso
      obtain ⟨rfl, _, _⟩ := entry_some z
      rw [obj] at e
      cases e
      exact n1 _ _ rfl
  have dicts : ∀ {b : Addr} {m : Str → Option Value}, s₁.heap.Ns b m → (hidT s₁.heap G).Ns b m := fun {b m} y => by
    obtain ⟨o, es, ep, e, d, r⟩ := y
    refine ⟨o, es, ep, hidT_get e (untracked e fun q m z => ?_), d, r⟩
    rw [d] at z
    cases z
  have kinG : K.In (hidT s₁.heap G) := fun b o e => hidT_get (kin b o e) (by
    cases z : G b with
    | none => rfl
    | some u =>
      exfalso
      obtain ⟨rfl, n, _⟩ := entry_some z
      rw [n] at e
      cases e)
  have mods : Mod K mg (hidT s₁.heap G) := by
    obtain ⟨mc, l1, l2⟩ := lim
    exact ⟨kinG, dicts glob, ⟨mb, dicts bltn, same⟩, ⟨mc, dicts l1, l2⟩⟩
  have env : Env0 P w K mg (hidT s₁.heap G) callerA [] s₁ G := by
    refine ⟨rfl, mods, fun b o e => of_hidT e, Nat.le_of_eq (hidT_size _ _), trivial, fun b z => ?_, ok, .of_eq nog⟩
    cases (show b ∈ ([] : List Addr) from z)
  refine codeAny_mono (run _ kinG (dicts glob) callerA [] s₁ G ⟨[.ref a], []⟩ [.ref a] [.ref a] _ E0 rfl room env (binds s₁ (.ref a)) (.cons rfl .nil) rfl (want G sees)) fun r s' h => ?_
  match r, h with
  | .error e, h => exact False.elim h
  | .ok .next, h => exact False.elim h
  | .ok .brk, h => exact False.elim h
  | .ok .cont, h => exact False.elim h
  | .ok (.ret u), h =>
    obtain ⟨v, H', os, bare, un, ok', r', q⟩ := h
    obtain rfl : v = .bl true := q
    obtain rfl : u = Value.bool true := r'
    have kept : ∀ b o, s₁.heap.get? b = some o → s'.heap.get? b = some o := fun b o e => by
      cases z : G b with
      | none => exact un.keep b o e z (fun y => by cases (show b ∈ ([] : List Addr) from y)) (by simp)
      | some u =>
        obtain ⟨rfl, _, rfl⟩ := entry_some z
        obtain ⟨y1, _⟩ := ok' b _ (un.frzs b _ _ z)
        rw [obj] at e
        cases e
        exact y1
    exact ⟨rfl, ⟨fun b o e => .inl (kept b o e), fun b o e => ⟨o, kept b o e⟩⟩, os, bare⟩
end
theorem walk {l : PySem.W.OpenLaw} {q : Program} {loose : List Str} {XP : (Str → Option Value) → Heap → Prop} {YP : World → Heap → Prop} {d : DefRec} {K : Params → PySem.W.Frag} (hn : l.most = some 63) (hdf : d.params.defaults = [])
    (hY : ∀ (w : World) (h : Heap), YP w h → (K w.params).In h)
    (F : ∀ (w : World) (mg : Str → Option Value) (fa : Addr) (h : Heap), (K w.params).In h → h.Ns mainGlobals mg → mg d.name = some (.ref fa) →
      ∃ (fd : FuncData), (∀ (s : Shared) (u : Value), BindsTo s fd ⟨[u], []⟩ [("_law_script", u)]) ∧ ∀ base : Heap, (K w.params).In base → base.Ns mainGlobals mg → RunG l.prog w (K w.params) mg base 11 fa fd ["_law_script"] (spLaw (K w.params))) :
    PySem.W.WalkO q loose XP YP l.row.toRowW d [] (fun f vs => PySem.call f vs) := by
  refine Att.attach_callB hn hdf fun w s₀ s₁ mg mb fa o pm cd doc a us ns G Y ho hd hcd hmg hobj nums hlen _ hg => ?_
  have kin := hY w _ Y
  obtain ⟨fd, q9, run⟩ := F w mg fa _ kin G.T.g hmg
  exact end_of kin G.T.g G.T.b G.T.builtins G.T.nolimit hg hobj nums (Nat.le_trans hlen (by decide)) ⟨rfl, by decide, by decide⟩ run q9 fun H hS => ⟨a, ns, rfl, hS, hlen, fun _ => rfl⟩
end K02

set_option autoImplicit false
set_option maxRecDepth 100000
set_option maxHeartbeats 4000000
namespace K02
open PySem PySem.Spec PyProof.Rows L2 KX L2H
def noB (K : PySem.W.Frag) (C : Addr) : Bool := frN.all fun f => decide (PySem.W.findIn K (.ref C) f = some none)
theorem all_mk {P : Program} {w : World} {K : PySem.W.Frag} {h : Heap} {mg : Str → Option Value} {fa : Addr} (X : K.In h) (G : h.Ns mainGlobals mg) (hfa : mg "law" = some (.ref fa))
    {C CI CO CT T0 T1 A0 A1 A2 : Addr}
    {f0 : Addr} {oc0 kV0 dc0 pm0 cd0 ct0 : Value} {od0 an0 : Option Addr} {sl0 : Array (Option Value)}
    {f1 : Addr} {oc1 kV1 dc1 pm1 cd1 ct1 : Value} {od1 an1 : Option Addr} {sl1 : Array (Option Value)}
    {f2 : Addr} {oc2 kV2 dc2 pm2 cd2 ct2 : Value} {od2 an2 : Option Addr} {sl2 : Array (Option Value)}
    {f3 : Addr} {oc3 kV3 dc3 pm3 cd3 ct3 : Value} {od3 an3 : Option Addr} {sl3 : Array (Option Value)}
    {f4 : Addr} {oc4 kV4 dc4 pm4 cd4 ct4 : Value} {od4 an4 : Option Addr} {sl4 : Array (Option Value)}
    {f5 : Addr} {oc5 kV5 dc5 pm5 cd5 ct5 : Value} {od5 an5 : Option Addr} {sl5 : Array (Option Value)}
    {f6 : Addr} {oc6 kV6 dc6 pm6 cd6 ct6 : Value} {od6 an6 : Option Addr} {sl6 : Array (Option Value)}
    {f7 : Addr} {oc7 kV7 dc7 pm7 cd7 ct7 : Value} {od7 an7 : Option Addr} {sl7 : Array (Option Value)}
    {f8 : Addr} {oc8 kV8 dc8 pm8 cd8 ct8 : Value} {od8 an8 : Option Addr} {sl8 : Array (Option Value)}
    {f9 : Addr} {oc9 kV9 dc9 pm9 cd9 ct9 : Value} {od9 an9 : Option Addr} {sl9 : Array (Option Value)}
    {f10 : Addr} {oc10 kV10 dc10 pm10 cd10 ct10 : Value} {od10 an10 : Option Addr} {sl10 : Array (Option Value)}
    {f11 : Addr} {oc11 kV11 dc11 pm11 cd11 ct11 : Value} {od11 an11 : Option Addr} {sl11 : Array (Option Value)}
    {f12 : Addr} {oc12 kV12 dc12 pm12 cd12 ct12 : Value} {od12 an12 : Option Addr} {sl12 : Array (Option Value)}
    {f13 : Addr} {oc13 kV13 dc13 pm13 cd13 ct13 : Value} {od13 an13 : Option Addr} {sl13 : Array (Option Value)}
    {f14 : Addr} {oc14 kV14 dc14 pm14 cd14 ct14 : Value} {od14 an14 : Option Addr} {sl14 : Array (Option Value)}
    {f15 : Addr} {oc15 kV15 dc15 pm15 cd15 ct15 : Value} {od15 an15 : Option Addr} {sl15 : Array (Option Value)}
    {f16 : Addr} {oc16 kV16 dc16 pm16 cd16 ct16 : Value} {od16 an16 : Option Addr} {sl16 : Array (Option Value)}
    {f17 : Addr} {oc17 kV17 dc17 pm17 cd17 ct17 : Value} {od17 an17 : Option Addr} {sl17 : Array (Option Value)}
    {f18 : Addr} {oc18 kV18 dc18 pm18 cd18 ct18 : Value} {od18 an18 : Option Addr} {sl18 : Array (Option Value)}
    {f19 : Addr} {oc19 kV19 dc19 pm19 cd19 ct19 : Value} {od19 an19 : Option Addr} {sl19 : Array (Option Value)}
    {f20 : Addr} {oc20 kV20 dc20 pm20 cd20 ct20 : Value} {od20 an20 : Option Addr} {sl20 : Array (Option Value)}
    {f21 : Addr} {oc21 kV21 dc21 pm21 cd21 ct21 : Value} {od21 an21 : Option Addr} {sl21 : Array (Option Value)}
    {f22 : Addr} {oc22 kV22 dc22 pm22 cd22 ct22 : Value} {od22 an22 : Option Addr} {sl22 : Array (Option Value)}
    {f23 : Addr} {oc23 kV23 dc23 pm23 cd23 ct23 : Value} {od23 an23 : Option Addr} {sl23 : Array (Option Value)}
    {f24 : Addr} {oc24 kV24 dc24 pm24 cd24 ct24 : Value} {od24 an24 : Option Addr} {sl24 : Array (Option Value)}
    {f25 : Addr} {oc25 kV25 dc25 pm25 cd25 ct25 : Value} {od25 an25 : Option Addr} {sl25 : Array (Option Value)}
    {f26 : Addr} {oc26 kV26 dc26 pm26 cd26 ct26 : Value} {od26 an26 : Option Addr} {sl26 : Array (Option Value)}
    {f27 : Addr} {oc27 kV27 dc27 pm27 cd27 ct27 : Value} {od27 an27 : Option Addr} {sl27 : Array (Option Value)}
    {f28 : Addr} {oc28 kV28 dc28 pm28 cd28 ct28 : Value} {od28 an28 : Option Addr} {sl28 : Array (Option Value)}
    {f29 : Addr} {oc29 kV29 dc29 pm29 cd29 ct29 : Value} {od29 an29 : Option Addr} {sl29 : Array (Option Value)}
    {f30 : Addr} {oc30 kV30 dc30 pm30 cd30 ct30 : Value} {od30 an30 : Option Addr} {sl30 : Array (Option Value)}
    {f31 : Addr} {oc31 kV31 dc31 pm31 cd31 ct31 : Value} {od31 an31 : Option Addr} {sl31 : Array (Option Value)}
    {f32 : Addr} {oc32 kV32 dc32 pm32 cd32 ct32 : Value} {od32 an32 : Option Addr} {sl32 : Array (Option Value)}
    {I0 : Addr} {ic0 iV0 idc0 ipm0 icd0 ict0 : Value} {iod0 ian0 : Option Addr} {isl0 : Array (Option Value)}
    {I1 : Addr} {ic1 iV1 idc1 ipm1 icd1 ict1 : Value} {iod1 ian1 : Option Addr} {isl1 : Array (Option Value)}
    {I2 : Addr} {ic2 iV2 idc2 ipm2 icd2 ict2 : Value} {iod2 ian2 : Option Addr} {isl2 : Array (Option Value)}
    {I3 : Addr} {ic3 iV3 idc3 ipm3 icd3 ict3 : Value} {iod3 ian3 : Option Addr} {isl3 : Array (Option Value)}
    {I4 : Addr} {ic4 iV4 idc4 ipm4 icd4 ict4 : Value} {iod4 ian4 : Option Addr} {isl4 : Array (Option Value)}
    {I5 : Addr} {ic5 iV5 idc5 ipm5 icd5 ict5 : Value} {iod5 ian5 : Option Addr} {isl5 : Array (Option Value)}
    {I6 : Addr} {ic6 iV6 idc6 ipm6 icd6 ict6 : Value} {iod6 ian6 : Option Addr} {isl6 : Array (Option Value)}
    {I7 : Addr} {ic7 iV7 idc7 ipm7 icd7 ict7 : Value} {iod7 ian7 : Option Addr} {isl7 : Array (Option Value)}
    {I8 : Addr} {ic8 iV8 idc8 ipm8 icd8 ict8 : Value} {iod8 ian8 : Option Addr} {isl8 : Array (Option Value)}
    {I9 : Addr} {ic9 iV9 idc9 ipm9 icd9 ict9 : Value} {iod9 ian9 : Option Addr} {isl9 : Array (Option Value)}
    {J0 jD0 : Addr} {jc0 jdc0 jpm0 jcd0 jct0 : Value} {jod0 jan0 : Option Addr} {jsl0 : Array (Option Value)}
    {odT0 : Option Addr} {slT0 : Array (Option Value)} {nT0 : Nat}
    {J1 jD1 : Addr} {jc1 jdc1 jpm1 jcd1 jct1 : Value} {jod1 jan1 : Option Addr} {jsl1 : Array (Option Value)}
    {odT1 : Option Addr} {slT1 : Array (Option Value)} {nT1 : Nat}
    {J2 jD2 : Addr} {jc2 jdc2 jpm2 jcd2 jct2 : Value} {jod2 jan2 : Option Addr} {jsl2 : Array (Option Value)}
    {odA0 : Option Addr} {slA0 : Array (Option Value)} {nA0 : Nat}
    {odA1 : Option Addr} {slA1 : Array (Option Value)} {nA1 : Nat}
    {odA2 : Option Addr} {slA2 : Array (Option Value)} {nA2 : Nat}
    {tl tm ta tp tv to ti : Tok}
    (aC : PySem.W.nsIn K mainGlobals "Frame" = some (some (.ref C)))
    (aCI : PySem.W.nsIn K mainGlobals "InvalidFrame" = some (some (.ref CI)))
    (aCO : PySem.W.nsIn K mainGlobals "InvalidOperation" = some (some (.ref CO)))
    (aCT : PySem.W.nsIn K mainGlobals "InvalidTerm" = some (some (.ref CT)))
    (af0 : PySem.W.nsIn K mainGlobals "is_whole" = some (some (.ref f0)))
    (lf0 : K.lookup f0 = some ⟨oc0, od0, .func (PySem.W.fnOf "is_whole" "is_whole" (defArgs sWhole) (defBody sWhole) (defScope sWhole) .none kV0 dc0 pm0 an0 cd0 ct0), sl0⟩)
    (cf0 : PySem.W.codeIn K cd0 "is_whole" = true)
    (kf0 : PySem.W.keepIn K (.ref f0) = true)
    (af1 : PySem.W.nsIn K mainGlobals "is_integer" = some (some (.ref f1)))
    (lf1 : K.lookup f1 = some ⟨oc1, od1, .func (PySem.W.fnOf "is_integer" "is_integer" (defArgs sIg) (defBody sIg) (defScope sIg) .none kV1 dc1 pm1 an1 cd1 ct1), sl1⟩)
    (cf1 : PySem.W.codeIn K cd1 "is_integer" = true)
    (kf1 : PySem.W.keepIn K (.ref f1) = true)
    (af2 : PySem.W.nsIn K mainGlobals "is_name" = some (some (.ref f2)))
    (lf2 : K.lookup f2 = some ⟨oc2, od2, .func (PySem.W.fnOf "is_name" "is_name" (defArgs sIsName) (defBody sIsName) (defScope sIsName) .none kV2 dc2 pm2 an2 cd2 ct2), sl2⟩)
    (cf2 : PySem.W.codeIn K cd2 "is_name" = true)
    (kf2 : PySem.W.keepIn K (.ref f2) = true)
    (af3 : PySem.W.nsIn K mainGlobals "are_names" = some (some (.ref f3)))
    (lf3 : K.lookup f3 = some ⟨oc3, od3, .func (PySem.W.fnOf "are_names" "are_names" (defArgs sAreNames) (defBody sAreNames) (defScope sAreNames) .none kV3 dc3 pm3 an3 cd3 ct3), sl3⟩)
    (cf3 : PySem.W.codeIn K cd3 "are_names" = true)
    (kf3 : PySem.W.keepIn K (.ref f3) = true)
    (af4 : PySem.W.nsIn K mainGlobals "are_arrays" = some (some (.ref f4)))
    (lf4 : K.lookup f4 = some ⟨oc4, od4, .func (PySem.W.fnOf "are_arrays" "are_arrays" (defArgs sAreArrays) (defBody sAreArrays) (defScope sAreArrays) .none kV4 dc4 pm4 an4 cd4 ct4), sl4⟩)
    (cf4 : PySem.W.codeIn K cd4 "are_arrays" = true)
    (kf4 : PySem.W.keepIn K (.ref f4) = true)
    (af5 : PySem.W.nsIn K mainGlobals "lengths_in" = some (some (.ref f5)))
    (lf5 : K.lookup f5 = some ⟨oc5, od5, .func (PySem.W.fnOf "lengths_in" "lengths_in" (defArgs sLengthsIn) (defBody sLengthsIn) (defScope sLengthsIn) .none kV5 dc5 pm5 an5 cd5 ct5), sl5⟩)
    (cf5 : PySem.W.codeIn K cd5 "lengths_in" = true)
    (kf5 : PySem.W.keepIn K (.ref f5) = true)
    (af6 : PySem.W.nsIn K mainGlobals "words_in" = some (some (.ref f6)))
    (lf6 : K.lookup f6 = some ⟨oc6, od6, .func (PySem.W.fnOf "words_in" "words_in" (defArgs sWordsIn) (defBody sWordsIn) (defScope sWordsIn) .none kV6 dc6 pm6 an6 cd6 ct6), sl6⟩)
    (cf6 : PySem.W.codeIn K cd6 "words_in" = true)
    (kf6 : PySem.W.keepIn K (.ref f6) = true)
    (af7 : PySem.W.nsIn K mainGlobals "is_frame_of" = some (some (.ref f7)))
    (lf7 : K.lookup f7 = some ⟨oc7, od7, .func (PySem.W.fnOf "is_frame_of" "is_frame_of" (defArgs sFrameOf) (defBody sFrameOf) (defScope sFrameOf) .none kV7 dc7 pm7 an7 cd7 ct7), sl7⟩)
    (cf7 : PySem.W.codeIn K cd7 "is_frame_of" = true)
    (kf7 : PySem.W.keepIn K (.ref f7) = true)
    (af8 : PySem.W.nsIn K mainGlobals "is_position_over" = some (some (.ref f8)))
    (lf8 : K.lookup f8 = some ⟨oc8, od8, .func (PySem.W.fnOf "is_position_over" "is_position_over" (defArgs sPos) (defBody sPos) (defScope sPos) .none kV8 dc8 pm8 an8 cd8 ct8), sl8⟩)
    (cf8 : PySem.W.codeIn K cd8 "is_position_over" = true)
    (kf8 : PySem.W.keepIn K (.ref f8) = true)
    (af9 : PySem.W.nsIn K mainGlobals "is_value_over" = some (some (.ref f9)))
    (lf9 : K.lookup f9 = some ⟨oc9, od9, .func (PySem.W.fnOf "is_value_over" "is_value_over" (defArgs sVal) (defBody sVal) (defScope sVal) .none kV9 dc9 pm9 an9 cd9 ct9), sl9⟩)
    (cf9 : PySem.W.codeIn K cd9 "is_value_over" = true)
    (kf9 : PySem.W.keepIn K (.ref f9) = true)
    (af10 : PySem.W.nsIn K mainGlobals "check_own" = some (some (.ref f10)))
    (lf10 : K.lookup f10 = some ⟨oc10, od10, .func (PySem.W.fnOf "check_own" "check_own" (defArgs sOwn) (defBody sOwn) (defScope sOwn) .none kV10 dc10 pm10 an10 cd10 ct10), sl10⟩)
    (cf10 : PySem.W.codeIn K cd10 "check_own" = true)
    (kf10 : PySem.W.keepIn K (.ref f10) = true)
    (af11 : PySem.W.nsIn K mainGlobals "raised" = some (some (.ref f11)))
    (lf11 : K.lookup f11 = some ⟨oc11, od11, .func (PySem.W.fnOf "raised" "raised" (defArgs sRaised) (defBody sRaised) (defScope sRaised) .none kV11 dc11 pm11 an11 cd11 ct11), sl11⟩)
    (cf11 : PySem.W.codeIn K cd11 "raised" = true)
    (kf11 : PySem.W.keepIn K (.ref f11) = true)
    (af12 : PySem.W.nsIn K mainGlobals "words_text" = some (some (.ref f12)))
    (lf12 : K.lookup f12 = some ⟨oc12, od12, .func (PySem.W.fnOf "words_text" "words_text" (defArgs sWT) (defBody sWT) (defScope sWT) .none kV12 dc12 pm12 an12 cd12 ct12), sl12⟩)
    (cf12 : PySem.W.codeIn K cd12 "words_text" = true)
    (kf12 : PySem.W.keepIn K (.ref f12) = true)
    (af13 : PySem.W.nsIn K mainGlobals "arrays_text" = some (some (.ref f13)))
    (lf13 : K.lookup f13 = some ⟨oc13, od13, .func (PySem.W.fnOf "arrays_text" "arrays_text" (defArgs sAT) (defBody sAT) (defScope sAT) .none kV13 dc13 pm13 an13 cd13 ct13), sl13⟩)
    (cf13 : PySem.W.codeIn K cd13 "arrays_text" = true)
    (kf13 : PySem.W.keepIn K (.ref f13) = true)
    (af14 : PySem.W.nsIn K mainGlobals "_law_creel" = some (some (.ref f14)))
    (lf14 : K.lookup f14 = some ⟨oc14, od14, .func (PySem.W.fnOf "_law_creel" "_law_creel" (defArgs sCreel) (defBody sCreel) (defScope sCreel) .none kV14 dc14 pm14 an14 cd14 ct14), sl14⟩)
    (cf14 : PySem.W.codeIn K cd14 "_law_creel" = true)
    (kf14 : PySem.W.keepIn K (.ref f14) = true)
    (af15 : PySem.W.nsIn K mainGlobals "_law_fish" = some (some (.ref f15)))
    (lf15 : K.lookup f15 = some ⟨oc15, od15, .func (PySem.W.fnOf "_law_fish" "_law_fish" (defArgs sFish) (defBody sFish) (defScope sFish) .none kV15 dc15 pm15 an15 cd15 ct15), sl15⟩)
    (cf15 : PySem.W.codeIn K cd15 "_law_fish" = true)
    (kf15 : PySem.W.keepIn K (.ref f15) = true)
    (af16 : PySem.W.nsIn K mainGlobals "_law_one_of" = some (some (.ref f16)))
    (lf16 : K.lookup f16 = some ⟨oc16, od16, .func (PySem.W.fnOf "_law_one_of" "_law_one_of" (defArgs sOne) (defBody sOne) (defScope sOne) .none kV16 dc16 pm16 an16 cd16 ct16), sl16⟩)
    (cf16 : PySem.W.codeIn K cd16 "_law_one_of" = true)
    (kf16 : PySem.W.keepIn K (.ref f16) = true)
    (af17 : PySem.W.nsIn K mainGlobals "_law_few_of" = some (some (.ref f17)))
    (lf17 : K.lookup f17 = some ⟨oc17, od17, .func (PySem.W.fnOf "_law_few_of" "_law_few_of" (defArgs sFew) (defBody sFew) (defScope sFew) .none kV17 dc17 pm17 an17 cd17 ct17), sl17⟩)
    (cf17 : PySem.W.codeIn K cd17 "_law_few_of" = true)
    (kf17 : PySem.W.keepIn K (.ref f17) = true)
    (af18 : PySem.W.nsIn K mainGlobals "_law_parts" = some (some (.ref f18)))
    (lf18 : K.lookup f18 = some ⟨oc18, od18, .func (PySem.W.fnOf "_law_parts" "_law_parts" (defArgs sPts) (defBody sPts) (defScope sPts) .none kV18 dc18 pm18 an18 cd18 ct18), sl18⟩)
    (cf18 : PySem.W.codeIn K cd18 "_law_parts" = true)
    (kf18 : PySem.W.keepIn K (.ref f18) = true)
    (af19 : PySem.W.nsIn K mainGlobals "_law_lengths" = some (some (.ref f19)))
    (lf19 : K.lookup f19 = some ⟨oc19, od19, .func (PySem.W.fnOf "_law_lengths" "_law_lengths" (defArgs sLens) (defBody sLens) (defScope sLens) .none kV19 dc19 pm19 an19 cd19 ct19), sl19⟩)
    (cf19 : PySem.W.codeIn K cd19 "_law_lengths" = true)
    (kf19 : PySem.W.keepIn K (.ref f19) = true)
    (af20 : PySem.W.nsIn K mainGlobals "_law_frame" = some (some (.ref f20)))
    (lf20 : K.lookup f20 = some ⟨oc20, od20, .func (PySem.W.fnOf "_law_frame" "_law_frame" (defArgs sFrame) (defBody sFrame) (defScope sFrame) .none kV20 dc20 pm20 an20 cd20 ct20), sl20⟩)
    (cf20 : PySem.W.codeIn K cd20 "_law_frame" = true)
    (kf20 : PySem.W.keepIn K (.ref f20) = true)
    (af21 : PySem.W.nsIn K mainGlobals "_law_all_of" = some (some (.ref f21)))
    (lf21 : K.lookup f21 = some ⟨oc21, od21, .func (PySem.W.fnOf "_law_all_of" "_law_all_of" (defArgs sAll) (defBody sAll) (defScope sAll) .none kV21 dc21 pm21 an21 cd21 ct21), sl21⟩)
    (cf21 : PySem.W.codeIn K cd21 "_law_all_of" = true)
    (kf21 : PySem.W.keepIn K (.ref f21) = true)
    (af22 : PySem.W.nsIn K mainGlobals "_law_is_number" = some (some (.ref f22)))
    (lf22 : K.lookup f22 = some ⟨oc22, od22, .func (PySem.W.fnOf "_law_is_number" "_law_is_number" (defArgs sNum) (defBody sNum) (defScope sNum) .none kV22 dc22 pm22 an22 cd22 ct22), sl22⟩)
    (cf22 : PySem.W.codeIn K cd22 "_law_is_number" = true)
    (kf22 : PySem.W.keepIn K (.ref f22) = true)
    (af23 : PySem.W.nsIn K mainGlobals "_law_is_place" = some (some (.ref f23)))
    (lf23 : K.lookup f23 = some ⟨oc23, od23, .func (PySem.W.fnOf "_law_is_place" "_law_is_place" (defArgs sPlc) (defBody sPlc) (defScope sPlc) .none kV23 dc23 pm23 an23 cd23 ct23), sl23⟩)
    (cf23 : PySem.W.codeIn K cd23 "_law_is_place" = true)
    (kf23 : PySem.W.keepIn K (.ref f23) = true)
    (af24 : PySem.W.nsIn K mainGlobals "_law_is_worth" = some (some (.ref f24)))
    (lf24 : K.lookup f24 = some ⟨oc24, od24, .func (PySem.W.fnOf "_law_is_worth" "_law_is_worth" (defArgs sWor) (defBody sWor) (defScope sWor) .none kV24 dc24 pm24 an24 cd24 ct24), sl24⟩)
    (cf24 : PySem.W.codeIn K cd24 "_law_is_worth" = true)
    (kf24 : PySem.W.keepIn K (.ref f24) = true)
    (af25 : PySem.W.nsIn K mainGlobals "_law_term_near" = some (some (.ref f25)))
    (lf25 : K.lookup f25 = some ⟨oc25, od25, .func (PySem.W.fnOf "_law_term_near" "_law_term_near" (defArgs sNear) (defBody sNear) (defScope sNear) .none kV25 dc25 pm25 an25 cd25 ct25), sl25⟩)
    (cf25 : PySem.W.codeIn K cd25 "_law_term_near" = true)
    (kf25 : PySem.W.keepIn K (.ref f25) = true)
    (af26 : PySem.W.nsIn K mainGlobals "_law_shifted" = some (some (.ref f26)))
    (lf26 : K.lookup f26 = some ⟨oc26, od26, .func (PySem.W.fnOf "_law_shifted" "_law_shifted" (defArgs sLSh) (defBody sLSh) (defScope sLSh) .none kV26 dc26 pm26 an26 cd26 ct26), sl26⟩)
    (cf26 : PySem.W.codeIn K cd26 "_law_shifted" = true)
    (kf26 : PySem.W.keepIn K (.ref f26) = true)
    (af27 : PySem.W.nsIn K mainGlobals "_law_terms_right" = some (some (.ref f27)))
    (lf27 : K.lookup f27 = some ⟨oc27, od27, .func (PySem.W.fnOf "_law_terms_right" "_law_terms_right" (defArgs sTR) (defBody sTR) (defScope sTR) .none kV27 dc27 pm27 an27 cd27 ct27), sl27⟩)
    (cf27 : PySem.W.codeIn K cd27 "_law_terms_right" = true)
    (kf27 : PySem.W.keepIn K (.ref f27) = true)
    (af28 : PySem.W.nsIn K mainGlobals "_law_is_let" = some (some (.ref f28)))
    (lf28 : K.lookup f28 = some ⟨oc28, od28, .func (PySem.W.fnOf "_law_is_let" "_law_is_let" (defArgs sLet) (defBody sLet) (defScope sLet) .none kV28 dc28 pm28 an28 cd28 ct28), sl28⟩)
    (cf28 : PySem.W.codeIn K cd28 "_law_is_let" = true)
    (kf28 : PySem.W.keepIn K (.ref f28) = true)
    (af29 : PySem.W.nsIn K mainGlobals "_law_more" = some (some (.ref f29)))
    (lf29 : K.lookup f29 = some ⟨oc29, od29, .func (PySem.W.fnOf "_law_more" "_law_more" (defArgs sMo) (defBody sMo) (defScope sMo) .none kV29 dc29 pm29 an29 cd29 ct29), sl29⟩)
    (cf29 : PySem.W.codeIn K cd29 "_law_more" = true)
    (kf29 : PySem.W.keepIn K (.ref f29) = true)
    (af30 : PySem.W.nsIn K mainGlobals "_law_other" = some (some (.ref f30)))
    (lf30 : K.lookup f30 = some ⟨oc30, od30, .func (PySem.W.fnOf "_law_other" "_law_other" (defArgs sOt) (defBody sOt) (defScope sOt) .none kV30 dc30 pm30 an30 cd30 ct30), sl30⟩)
    (cf30 : PySem.W.codeIn K cd30 "_law_other" = true)
    (kf30 : PySem.W.keepIn K (.ref f30) = true)
    (af31 : PySem.W.nsIn K mainGlobals "_law_right" = some (some (.ref f31)))
    (lf31 : K.lookup f31 = some ⟨oc31, od31, .func (PySem.W.fnOf "_law_right" "_law_right" (defArgs sRt) (defBody sRt) (defScope sRt) .none kV31 dc31 pm31 an31 cd31 ct31), sl31⟩)
    (cf31 : PySem.W.codeIn K cd31 "_law_right" = true)
    (kf31 : PySem.W.keepIn K (.ref f31) = true)
    (af32 : PySem.W.nsIn K mainGlobals "law" = some (some (.ref f32)))
    (lf32 : K.lookup f32 = some ⟨oc32, od32, .func (PySem.W.fnOf "law" "law" (defArgs sLaw) (defBody sLaw) (defScope sLaw) .none kV32 dc32 pm32 an32 cd32 ct32), sl32⟩)
    (cf32 : PySem.W.codeIn K cd32 "law" = true)
    (kf32 : PySem.W.keepIn K (.ref f32) = true)
    (aI0 : PySem.W.findIn K (.ref C) "__init__" = some (some (.ref I0)))
    (lI0 : K.lookup I0 = some ⟨ic0, iod0, .func (PySem.W.fnOf "__init__" "Frame.__init__" (defArgs sInit) (defBody sInit) (defScope sInit) .none iV0 idc0 ipm0 ian0 icd0 ict0), isl0⟩)
    (cI0 : PySem.W.codeIn K icd0 "Frame.__init__" = true)
    (kI0 : PySem.W.keepIn K (.ref I0) = true)
    (nI0 : PySem.W.isFn K (.ref I0) = true)
    (aI1 : PySem.W.findIn K (.ref C) "has_kind" = some (some (.ref I1)))
    (lI1 : K.lookup I1 = some ⟨ic1, iod1, .func (PySem.W.fnOf "has_kind" "Frame.has_kind" (defArgs sHas) (defBody sHas) (defScope sHas) .none iV1 idc1 ipm1 ian1 icd1 ict1), isl1⟩)
    (cI1 : PySem.W.codeIn K icd1 "Frame.has_kind" = true)
    (kI1 : PySem.W.keepIn K (.ref I1) = true)
    (nI1 : PySem.W.isFn K (.ref I1) = true)
    (aI2 : PySem.W.findIn K (.ref C) "is_fresh" = some (some (.ref I2)))
    (lI2 : K.lookup I2 = some ⟨ic2, iod2, .func (PySem.W.fnOf "is_fresh" "Frame.is_fresh" (defArgs sFresh) (defBody sFresh) (defScope sFresh) .none iV2 idc2 ipm2 ian2 icd2 ict2), isl2⟩)
    (cI2 : PySem.W.codeIn K icd2 "Frame.is_fresh" = true)
    (kI2 : PySem.W.keepIn K (.ref I2) = true)
    (nI2 : PySem.W.isFn K (.ref I2) = true)
    (aI3 : PySem.W.findIn K (.ref C) "__contains__" = some (some (.ref I3)))
    (lI3 : K.lookup I3 = some ⟨ic3, iod3, .func (PySem.W.fnOf "__contains__" "Frame.__contains__" (defArgs sIn) (defBody sIn) (defScope sIn) .none iV3 idc3 ipm3 ian3 icd3 ict3), isl3⟩)
    (cI3 : PySem.W.codeIn K icd3 "Frame.__contains__" = true)
    (kI3 : PySem.W.keepIn K (.ref I3) = true)
    (nI3 : PySem.W.isFn K (.ref I3) = true)
    (aI4 : PySem.W.findIn K (.ref C) "__len__" = some (some (.ref I4)))
    (lI4 : K.lookup I4 = some ⟨ic4, iod4, .func (PySem.W.fnOf "__len__" "Frame.__len__" (defArgs sLen) (defBody sLen) (defScope sLen) .none iV4 idc4 ipm4 ian4 icd4 ict4), isl4⟩)
    (cI4 : PySem.W.codeIn K icd4 "Frame.__len__" = true)
    (kI4 : PySem.W.keepIn K (.ref I4) = true)
    (nI4 : PySem.W.isFn K (.ref I4) = true)
    (aI5 : PySem.W.findIn K (.ref C) "__eq__" = some (some (.ref I5)))
    (lI5 : K.lookup I5 = some ⟨ic5, iod5, .func (PySem.W.fnOf "__eq__" "Frame.__eq__" (defArgs sEq) (defBody sEq) (defScope sEq) .none iV5 idc5 ipm5 ian5 icd5 ict5), isl5⟩)
    (cI5 : PySem.W.codeIn K icd5 "Frame.__eq__" = true)
    (kI5 : PySem.W.keepIn K (.ref I5) = true)
    (nI5 : PySem.W.isFn K (.ref I5) = true)
    (aI6 : PySem.W.findIn K (.ref C) "__str__" = some (some (.ref I6)))
    (lI6 : K.lookup I6 = some ⟨ic6, iod6, .func (PySem.W.fnOf "__str__" "Frame.__str__" (defArgs sStr) (defBody sStr) (defScope sStr) .none iV6 idc6 ipm6 ian6 icd6 ict6), isl6⟩)
    (cI6 : PySem.W.codeIn K icd6 "Frame.__str__" = true)
    (kI6 : PySem.W.keepIn K (.ref I6) = true)
    (nI6 : PySem.W.isFn K (.ref I6) = true)
    (aI7 : PySem.W.findIn K (.ref C) "shifted" = some (some (.ref I7)))
    (lI7 : K.lookup I7 = some ⟨ic7, iod7, .func (PySem.W.fnOf "shifted" "Frame.shifted" (defArgs sShift) (defBody sShift) (defScope sShift) .none iV7 idc7 ipm7 ian7 icd7 ict7), isl7⟩)
    (cI7 : PySem.W.codeIn K icd7 "Frame.shifted" = true)
    (kI7 : PySem.W.keepIn K (.ref I7) = true)
    (nI7 : PySem.W.isFn K (.ref I7) = true)
    (aI8 : PySem.W.findIn K (.ref C) "_is_term" = some (some (.ref I8)))
    (lI8 : K.lookup I8 = some ⟨ic8, iod8, .func (PySem.W.fnOf "_is_term" "Frame._is_term" (defArgs sTrm) (defBody sTrm) (defScope sTrm) .none iV8 idc8 ipm8 ian8 icd8 ict8), isl8⟩)
    (cI8 : PySem.W.codeIn K icd8 "Frame._is_term" = true)
    (kI8 : PySem.W.keepIn K (.ref I8) = true)
    (nI8 : PySem.W.isFn K (.ref I8) = true)
    (aI9 : PySem.W.findIn K (.ref C) "renamed" = some (some (.ref I9)))
    (lI9 : K.lookup I9 = some ⟨ic9, iod9, .func (PySem.W.fnOf "renamed" "Frame.renamed" (defArgs sRen) (defBody sRen) (defScope sRen) .none iV9 idc9 ipm9 ian9 icd9 ict9), isl9⟩)
    (cI9 : PySem.W.codeIn K icd9 "Frame.renamed" = true)
    (kI9 : PySem.W.keepIn K (.ref I9) = true)
    (nI9 : PySem.W.isFn K (.ref I9) = true)
    (aJ0 : PySem.W.findIn K (.ref C) "is_position_term" = some (some (.ref J0)))
    (lJ0 : K.lookup J0 = some ⟨jc0, jod0, .func (PySem.W.fnOf "is_position_term" "Frame.is_position_term" (defArgs sIsP) (defBody sIsP) (defScope sIsP) .none (.ref jD0) jdc0 jpm0 jan0 jcd0 jct0), jsl0⟩)
    (cJ0 : PySem.W.codeIn K jcd0 "Frame.is_position_term" = true)
    (kJ0 : PySem.W.keepIn K (.ref J0) = true)
    (nJ0 : PySem.W.isFn K (.ref J0) = true)
    (dT0 : PySem.W.nsIn K jD0 "own" = some (some (.ref T0)))
    (tT0 : K.lookup T0 = some ⟨.type "tuple", odT0, .seq #[] nT0, slT0⟩)
    (aJ1 : PySem.W.findIn K (.ref C) "is_value_term" = some (some (.ref J1)))
    (lJ1 : K.lookup J1 = some ⟨jc1, jod1, .func (PySem.W.fnOf "is_value_term" "Frame.is_value_term" (defArgs sIsV) (defBody sIsV) (defScope sIsV) .none (.ref jD1) jdc1 jpm1 jan1 jcd1 jct1), jsl1⟩)
    (cJ1 : PySem.W.codeIn K jcd1 "Frame.is_value_term" = true)
    (kJ1 : PySem.W.keepIn K (.ref J1) = true)
    (nJ1 : PySem.W.isFn K (.ref J1) = true)
    (dT1 : PySem.W.nsIn K jD1 "own" = some (some (.ref T1)))
    (tT1 : K.lookup T1 = some ⟨.type "tuple", odT1, .seq #[] nT1, slT1⟩)
    (aJ2 : PySem.W.findIn K (.ref C) "with_names" = some (some (.ref J2)))
    (lJ2 : K.lookup J2 = some ⟨jc2, jod2, .func (PySem.W.fnOf "with_names" "Frame.with_names" (defArgs sWith) (defBody sWith) (defScope sWith) .none (.ref jD2) jdc2 jpm2 jan2 jcd2 jct2), jsl2⟩)
    (cJ2 : PySem.W.codeIn K jcd2 "Frame.with_names" = true)
    (kJ2 : PySem.W.keepIn K (.ref J2) = true)
    (nJ2 : PySem.W.isFn K (.ref J2) = true)
    (dA0 : PySem.W.nsIn K jD2 "arrays" = some (some (.ref A0)))
    (tA0 : K.lookup A0 = some ⟨.type "tuple", odA0, .seq #[] nA0, slA0⟩)
    (dA1 : PySem.W.nsIn K jD2 "positions" = some (some (.ref A1)))
    (tA1 : K.lookup A1 = some ⟨.type "tuple", odA1, .seq #[] nA1, slA1⟩)
    (dA2 : PySem.W.nsIn K jD2 "values" = some (some (.ref A2)))
    (tA2 : K.lookup A2 = some ⟨.type "tuple", odA2, .seq #[] nA2, slA2⟩)
    (cPg : PySem.W.plainGet K C Str.empty = true)
    (cHd : PySem.W.hasDictIn K C = true)
    (cPo : PySem.W.plainOver K C = true)
    (cSa : PySem.W.findIn K (.ref C) "__setattr__" = some (some (.builtin "object.__setattr__")))
    (cNo : noB K C = true)
    (cMk : PySem.W.makesIn K C = true)
    (cKp : PySem.W.keepIn K (.ref C) = true)
    (xOvCI : PySem.W.excIn K CI [.type "ValueError", .type "Exception", .type "BaseException", .type "object"] "ValueError.__new__" = true)
    (xKpCI : PySem.W.keepIn K (.ref CI) = true)
    (xBeCI : PySem.W.subIn K (.ref CI) (.type "BaseException") = some true)
    (xTyCI : PySem.W.typeIn K (.ref CI) = some (.type "type"))
    (xExCI : PySem.W.exmOne K (.ref CI) (.ref CI) = some true)
    (xOvCO : PySem.W.excIn K CO [.type "ValueError", .type "Exception", .type "BaseException", .type "object"] "ValueError.__new__" = true)
    (xKpCO : PySem.W.keepIn K (.ref CO) = true)
    (xBeCO : PySem.W.subIn K (.ref CO) (.type "BaseException") = some true)
    (xTyCO : PySem.W.typeIn K (.ref CO) = some (.type "type"))
    (xExCO : PySem.W.exmOne K (.ref CO) (.ref CO) = some true)
    (xOvCT : PySem.W.excIn K CT [.type "ValueError", .type "Exception", .type "BaseException", .type "object"] "ValueError.__new__" = true)
    (xKpCT : PySem.W.keepIn K (.ref CT) = true)
    (xBeCT : PySem.W.subIn K (.ref CT) (.type "BaseException") = some true)
    (xTyCT : PySem.W.typeIn K (.ref CT) = some (.type "type"))
    (xExCT : PySem.W.exmOne K (.ref CT) (.ref CT) = some true)
    (iHa : PySem.W.findIn K (.ref C) "__class__" = some (some (.builtin "object.__class__")))
    (iHn : PySem.W.specialIn K (.builtin "object.__class__") "__get__" = some (some (.builtin "getset_descriptor.__get__")))
    (iHt : PySem.W.takesIn K (.builtin "object.__class__") = some true)
    (iHm : PySem.W.mroIn K C (.type "object") = some true)
    (iKt : PySem.W.kitOne K (.ref C) (.ref C) = some true)
    (iKl : PySem.W.kitOne K (.type "list") (.ref C) = some false)
    (iNe : PySem.W.findIn K (.ref C) "__ne__" = some (some (.builtin "object.__ne__")))
    (iNc : PySem.W.notFirst K C (.ref C) = true)
    (aL : PySem.W.nsIn K mainGlobals "LETTERS" = some (some (.str "abcdefghijklmnopqrstuvwxyz" tl)))
    (aM : PySem.W.nsIn K mainGlobals "MAX_LETTERS" = some (some (.int 8 tm)))
    (aA : PySem.W.nsIn K mainGlobals "MAX_ARRAYS" = some (some (.int 12 ta)))
    (aP : PySem.W.nsIn K mainGlobals "MAX_POSITIONS" = some (some (.int 6 tp)))
    (aV : PySem.W.nsIn K mainGlobals "MAX_VALUES" = some (some (.int 6 tv)))
    (aO : PySem.W.nsIn K mainGlobals "MAX_OWN" = some (some (.int 2 to)))
    (aG : PySem.W.nsIn K mainGlobals "LIMIT" = some (some (.int lim ti)))
    (z_isinstance : PySem.W.nsIn K mainGlobals "isinstance" = some none)
    (z_str : PySem.W.nsIn K mainGlobals "str" = some none)
    (z_tuple : PySem.W.nsIn K mainGlobals "tuple" = some none)
    (z_len : PySem.W.nsIn K mainGlobals "len" = some none)
    (z_all : PySem.W.nsIn K mainGlobals "all" = some none)
    (z_set : PySem.W.nsIn K mainGlobals "set" = some none)
    (z_int : PySem.W.nsIn K mainGlobals "int" = some none)
    (z_list : PySem.W.nsIn K mainGlobals "list" = some none)
    (z_range : PySem.W.nsIn K mainGlobals "range" = some none)
    (z_min : PySem.W.nsIn K mainGlobals "min" = some none)
    (z_max : PySem.W.nsIn K mainGlobals "max" = some none)
    (z_abs : PySem.W.nsIn K mainGlobals "abs" = some none)
    (z_repr : PySem.W.nsIn K mainGlobals "repr" = some none)
    (z_bool : PySem.W.nsIn K mainGlobals "bool" = some none)
    (z_dict : PySem.W.nsIn K mainGlobals "dict" = some none)
    (z_zip : PySem.W.nsIn K mainGlobals "zip" = some none)
    : ∃ (fd : FuncData), (∀ (s : Shared) (u : Value), BindsTo s fd ⟨[u], []⟩ [("_law_script", u)]) ∧ ∀ base : Heap, K.In base → base.Ns mainGlobals mg → RunG P w K mg base 11 fa fd ["_law_script"] (spLaw K) := by
  have e := hfa.symm.trans (PySem.W.mg_of X G af32)
  cases e
  have gF := PySem.W.mg_of X G aC
  have gCI := PySem.W.mg_of X G aCI
  have gCO := PySem.W.mg_of X G aCO
  have gCT := PySem.W.mg_of X G aCT
  have m_isinstance := PySem.W.mg_none_of X G z_isinstance
  have m_str := PySem.W.mg_none_of X G z_str
  have m_tuple := PySem.W.mg_none_of X G z_tuple
  have m_len := PySem.W.mg_none_of X G z_len
  have m_all := PySem.W.mg_none_of X G z_all
  have m_set := PySem.W.mg_none_of X G z_set
  have m_int := PySem.W.mg_none_of X G z_int
  have m_list := PySem.W.mg_none_of X G z_list
  have m_range := PySem.W.mg_none_of X G z_range
  have m_min := PySem.W.mg_none_of X G z_min
  have m_max := PySem.W.mg_none_of X G z_max
  have m_abs := PySem.W.mg_none_of X G z_abs
  have m_repr := PySem.W.mg_none_of X G z_repr
  have m_bool := PySem.W.mg_none_of X G z_bool
  have m_dict := PySem.W.mg_none_of X G z_dict
  have m_zip := PySem.W.mg_none_of X G z_zip
  have mL := PySem.W.mg_of X G aL
  have mM := PySem.W.mg_of X G aM
  have mA := PySem.W.mg_of X G aA
  have mP := PySem.W.mg_of X G aP
  have mV := PySem.W.mg_of X G aV
  have mO := PySem.W.mg_of X G aO
  have mG := PySem.W.mg_of X G aG
  have g0 := PySem.W.mg_of X G af0
  have F0 := fun_mk (st := sWhole) lf0 cf0 kf0
  have b0 := F0.binds (ps := ["value"]) fun _ _ _ _ _ _ us hl => match us, hl with | [_], _ => rfl
  have g1 := PySem.W.mg_of X G af1
  have F1 := fun_mk (st := sIg) lf1 cf1 kf1
  have b1 := F1.binds (ps := ["value"]) fun _ _ _ _ _ _ us hl => match us, hl with | [_], _ => rfl
  have g2 := PySem.W.mg_of X G af2
  have F2 := fun_mk (st := sIsName) lf2 cf2 kf2
  have b2 := F2.binds (ps := ["value"]) fun _ _ _ _ _ _ us hl => match us, hl with | [_], _ => rfl
  have g3 := PySem.W.mg_of X G af3
  have F3 := fun_mk (st := sAreNames) lf3 cf3 kf3
  have b3 := F3.binds (ps := ["value", "most"]) fun _ _ _ _ _ _ us hl => match us, hl with | [_, _], _ => rfl
  have g4 := PySem.W.mg_of X G af4
  have F4 := fun_mk (st := sAreArrays) lf4 cf4 kf4
  have b4 := F4.binds (ps := ["value"]) fun _ _ _ _ _ _ us hl => match us, hl with | [_], _ => rfl
  have g5 := PySem.W.mg_of X G af5
  have F5 := fun_mk (st := sLengthsIn) lf5 cf5 kf5
  have b5 := F5.binds (ps := ["arrays"]) fun _ _ _ _ _ _ us hl => match us, hl with | [_], _ => rfl
  have g6 := PySem.W.mg_of X G af6
  have F6 := fun_mk (st := sWordsIn) lf6 cf6 kf6
  have b6 := F6.binds (ps := ["arrays", "positions", "values"]) fun _ _ _ _ _ _ us hl => match us, hl with | [_, _, _], _ => rfl
  have g7 := PySem.W.mg_of X G af7
  have F7 := fun_mk (st := sFrameOf) lf7 cf7 kf7
  have b7 := F7.binds (ps := ["arrays", "positions", "values"]) fun _ _ _ _ _ _ us hl => match us, hl with | [_, _, _], _ => rfl
  have g8 := PySem.W.mg_of X G af8
  have F8 := fun_mk (st := sPos) lf8 cf8 kf8
  have b8 := F8.binds (ps := ["frame", "value", "extra"]) fun _ _ _ _ _ _ us hl => match us, hl with | [_, _, _], _ => rfl
  have g9 := PySem.W.mg_of X G af9
  have F9 := fun_mk (st := sVal) lf9 cf9 kf9
  have b9 := F9.binds (ps := ["frame", "value", "extra"]) fun _ _ _ _ _ _ us hl => match us, hl with | [_, _, _], _ => rfl
  have g10 := PySem.W.mg_of X G af10
  have F10 := fun_mk (st := sOwn) lf10 cf10 kf10
  have b10 := F10.binds (ps := ["frame", "own"]) fun _ _ _ _ _ _ us hl => match us, hl with | [_, _], _ => rfl
  have g11 := PySem.W.mg_of X G af11
  have F11 := fun_mk (st := sRaised) lf11 cf11 kf11
  have b11 := F11.binds (ps := ["term", "more"]) fun _ _ _ _ _ _ us hl => match us, hl with | [_, _], _ => rfl
  have g12 := PySem.W.mg_of X G af12
  have F12 := fun_mk (st := sWT) lf12 cf12 kf12
  have b12 := F12.binds (ps := ["words"]) fun _ _ _ _ _ _ us hl => match us, hl with | [_], _ => rfl
  have g13 := PySem.W.mg_of X G af13
  have F13 := fun_mk (st := sAT) lf13 cf13 kf13
  have b13 := F13.binds (ps := ["arrays"]) fun _ _ _ _ _ _ us hl => match us, hl with | [_], _ => rfl
  have g14 := PySem.W.mg_of X G af14
  have F14 := fun_mk (st := sCreel) lf14 cf14 kf14
  have b14 := F14.binds (ps := ["_law_script", "_law_at"]) fun _ _ _ _ _ _ us hl => match us, hl with | [_, _], _ => rfl
  have g15 := PySem.W.mg_of X G af15
  have F15 := fun_mk (st := sFish) lf15 cf15 kf15
  have b15 := F15.binds (ps := ["_law_creel_here", "_law_total"]) fun _ _ _ _ _ _ us hl => match us, hl with | [_, _], _ => rfl
  have g16 := PySem.W.mg_of X G af16
  have F16 := fun_mk (st := sOne) lf16 cf16 kf16
  have b16 := F16.binds (ps := ["_law_creel_here", "_law_items"]) fun _ _ _ _ _ _ us hl => match us, hl with | [_, _], _ => rfl
  have g17 := PySem.W.mg_of X G af17
  have F17 := fun_mk (st := sFew) lf17 cf17 kf17
  have b17 := F17.binds (ps := ["_law_creel_here", "_law_items", "_law_count"]) fun _ _ _ _ _ _ us hl => match us, hl with | [_, _, _], _ => rfl
  have g18 := PySem.W.mg_of X G af18
  have F18 := fun_mk (st := sPts) lf18 cf18 kf18
  have b18 := F18.binds (ps := ["_law_creel_here"]) fun _ _ _ _ _ _ us hl => match us, hl with | [_], _ => rfl
  have g19 := PySem.W.mg_of X G af19
  have F19 := fun_mk (st := sLens) lf19 cf19 kf19
  have b19 := F19.binds (ps := ["_law_parts_here"]) fun _ _ _ _ _ _ us hl => match us, hl with | [_], _ => rfl
  have g20 := PySem.W.mg_of X G af20
  have F20 := fun_mk (st := sFrame) lf20 cf20 kf20
  have b20 := F20.binds (ps := ["_law_parts_here"]) fun _ _ _ _ _ _ us hl => match us, hl with | [_], _ => rfl
  have g21 := PySem.W.mg_of X G af21
  have F21 := fun_mk (st := sAll) lf21 cf21 kf21
  have b21 := F21.binds (ps := ["_law_parts_here"]) fun _ _ _ _ _ _ us hl => match us, hl with | [_], _ => rfl
  have g22 := PySem.W.mg_of X G af22
  have F22 := fun_mk (st := sNum) lf22 cf22 kf22
  have b22 := F22.binds (ps := ["_law_value"]) fun _ _ _ _ _ _ us hl => match us, hl with | [_], _ => rfl
  have g23 := PySem.W.mg_of X G af23
  have F23 := fun_mk (st := sPlc) lf23 cf23 kf23
  have b23 := F23.binds (ps := ["_law_parts_here", "_law_value", "_law_mine"]) fun _ _ _ _ _ _ us hl => match us, hl with | [_, _, _], _ => rfl
  have g24 := PySem.W.mg_of X G af24
  have F24 := fun_mk (st := sWor) lf24 cf24 kf24
  have b24 := F24.binds (ps := ["_law_parts_here", "_law_value", "_law_mine"]) fun _ _ _ _ _ _ us hl => match us, hl with | [_, _, _], _ => rfl
  have g25 := PySem.W.mg_of X G af25
  have F25 := fun_mk (st := sNear) lf25 cf25 kf25
  have b25 := F25.binds (ps := ["_law_creel_here", "_law_parts_here", "_law_mine"]) fun _ _ _ _ _ _ us hl => match us, hl with | [_, _, _], _ => rfl
  have g26 := PySem.W.mg_of X G af26
  have F26 := fun_mk (st := sLSh) lf26 cf26 kf26
  have b26 := F26.binds (ps := ["_law_frame_here", "_law_term", "_law_shift"]) fun _ _ _ _ _ _ us hl => match us, hl with | [_, _, _], _ => rfl
  have g27 := PySem.W.mg_of X G af27
  have F27 := fun_mk (st := sTR) lf27 cf27 kf27
  have b27 := F27.binds (ps := ["_law_creel_here", "_law_frame_here", "_law_parts_here"]) fun _ _ _ _ _ _ us hl => match us, hl with | [_, _, _], _ => rfl
  have g28 := PySem.W.mg_of X G af28
  have F28 := fun_mk (st := sLet) lf28 cf28 kf28
  have b28 := F28.binds (ps := ["_law_parts_here"]) fun _ _ _ _ _ _ us hl => match us, hl with | [_], _ => rfl
  have g29 := PySem.W.mg_of X G af29
  have F29 := fun_mk (st := sMo) lf29 cf29 kf29
  have b29 := F29.binds (ps := ["_law_creel_here", "_law_frame_here", "_law_parts_here"]) fun _ _ _ _ _ _ us hl => match us, hl with | [_, _, _], _ => rfl
  have g30 := PySem.W.mg_of X G af30
  have F30 := fun_mk (st := sOt) lf30 cf30 kf30
  have b30 := F30.binds (ps := ["_law_creel_here", "_law_frame_here", "_law_parts_here"]) fun _ _ _ _ _ _ us hl => match us, hl with | [_, _, _], _ => rfl
  have g31 := PySem.W.mg_of X G af31
  have F31 := fun_mk (st := sRt) lf31 cf31 kf31
  have b31 := F31.binds (ps := ["_law_creel_here"]) fun _ _ _ _ _ _ us hl => match us, hl with | [_], _ => rfl
  have g32 := PySem.W.mg_of X G af32
  have F32 := fun_mk (st := sLaw) lf32 cf32 kf32
  have b32 := F32.binds (ps := ["_law_script"]) fun _ _ _ _ _ _ us hl => match us, hl with | [_], _ => rfl
  have FI0 := fun_mk (st := sInit) lI0 cI0 kI0
  have bI0 := FI0.binds (ps := ["self", "arrays", "positions", "values"]) fun _ _ _ _ _ _ us hl => match us, hl with | [_, _, _, _], _ => rfl
  have FI1 := fun_mk (st := sHas) lI1 cI1 kI1
  have bI1 := FI1.binds (ps := ["self", "value", "kinds"]) fun _ _ _ _ _ _ us hl => match us, hl with | [_, _, _], _ => rfl
  have FI2 := fun_mk (st := sFresh) lI2 cI2 kI2
  have bI2 := FI2.binds (ps := ["self", "value"]) fun _ _ _ _ _ _ us hl => match us, hl with | [_, _], _ => rfl
  have FI3 := fun_mk (st := sIn) lI3 cI3 kI3
  have bI3 := FI3.binds (ps := ["self", "value"]) fun _ _ _ _ _ _ us hl => match us, hl with | [_, _], _ => rfl
  have FI4 := fun_mk (st := sLen) lI4 cI4 kI4
  have bI4 := FI4.binds (ps := ["self"]) fun _ _ _ _ _ _ us hl => match us, hl with | [_], _ => rfl
  have FI5 := fun_mk (st := sEq) lI5 cI5 kI5
  have bI5 := FI5.binds (ps := ["self", "other"]) fun _ _ _ _ _ _ us hl => match us, hl with | [_, _], _ => rfl
  have FI6 := fun_mk (st := sStr) lI6 cI6 kI6
  have bI6 := FI6.binds (ps := ["self"]) fun _ _ _ _ _ _ us hl => match us, hl with | [_], _ => rfl
  have FI7 := fun_mk (st := sShift) lI7 cI7 kI7
  have bI7 := FI7.binds (ps := ["self", "term", "shift"]) fun _ _ _ _ _ _ us hl => match us, hl with | [_, _, _], _ => rfl
  have FI8 := fun_mk (st := sTrm) lI8 cI8 kI8
  have bI8 := FI8.binds (ps := ["self", "value"]) fun _ _ _ _ _ _ us hl => match us, hl with | [_, _], _ => rfl
  have FI9 := fun_mk (st := sRen) lI9 cI9 kI9
  have bI9 := FI9.binds (ps := ["self", "names"]) fun _ _ _ _ _ _ us hl => match us, hl with | [_, _], _ => rfl
  have FJ0 := funD_mk (kws := [("own", .ref T0)]) lJ0 cJ0 (dfl1 dT0) kJ0
  have FJ1 := funD_mk (kws := [("own", .ref T1)]) lJ1 cJ1 (dfl1 dT1) kJ1
  have FJ2 := funD_mk (kws := [("arrays", .ref A0), ("positions", .ref A1), ("values", .ref A2)]) lJ2 cJ2 (dfl3 dA0 dA1 dA2) kJ2
  have sT0 := sqt0 tT0
  have sT1 := sqt0 tT1
  have sA0 := sqt0 tA0
  have sA1 := sqt0 tA1
  have sA2 := sqt0 tA2
  obtain ⟨d0, v0, b0J⟩ := isP_b0 FJ0
  obtain ⟨d1, v1, b1J⟩ := isV_b0 FJ1
  obtain ⟨d2, v2, b2J⟩ := with_b0 FJ2
  obtain ⟨h0, k0J⟩ := isP_k FJ0
  obtain ⟨h1, k1J⟩ := isV_k FJ1
  obtain ⟨h2, k2J⟩ := with_k FJ2
  have B : Free mg := ⟨m_isinstance, m_str, m_tuple, m_len, m_all, m_set, m_int, m_list, m_range⟩
  have T : FrTxt K mg C := ⟨⟨cPg, cHd, cPo, cSa⟩, fun f hf => (show PySem.W.findIn K (.ref C) f = some none from of_decide_eq_true (List.all_eq_true.mp cNo f hf))⟩
  have S : FrIs K mg C := ⟨gF, iHa, iHn, iHt, iHm, iKt, iKl⟩
  have MPCI : MkP K mg "InvalidFrame" CI := ⟨xOvCI, gCI, xKpCI, xBeCI, xTyCI⟩
  have MPCO : MkP K mg "InvalidOperation" CO := ⟨xOvCO, gCO, xKpCO, xBeCO, xTyCO⟩
  have MPCT : MkP K mg "InvalidTerm" CT := ⟨xOvCT, gCT, xKpCT, xBeCT, xTyCT⟩
  refine ⟨PySem.W.fnOf "law" "law" (defArgs sLaw) (defBody sLaw) (defScope sLaw) .none kV32 dc32 pm32 an32 cd32 ct32, fun s u => .of_eq rfl, fun base _ _ => ?_⟩
  have whole : Fnc P w K mg base CX0 1 "is_whole" ["value"] spWhole := ⟨⟨f0, _, ok_whole F0 B m_bool, b0, g0, F0.kp⟩⟩
  have ig : Fnc P w K mg base CX0 2 "is_integer" ["value"] spIg := ⟨⟨f1, _, ok_ig F1 whole mG, b1, g1, F1.kp⟩⟩
  have isn : Fnc P w K mg base CX0 1 "is_name" ["value"] (spName K) := ⟨⟨f2, _, ok_isName F2 m_isinstance m_str m_len m_all mL mM, b2, g2, F2.kp⟩⟩
  have names : Fnc P w K mg base CX0 2 "are_names" ["value", "most"] spNames := ⟨⟨f3, _, ok_names F3 isn B, b3, g3, F3.kp⟩⟩
  have namesK : Fnc P w K mg base CX0 2 "are_names" ["value", "most"] (spNamesK K) := ⟨⟨f3, _, ok_namesK F3 isn B, b3, g3, F3.kp⟩⟩
  have arrs : Fnc P w K mg base CX0 3 "are_arrays" ["value"] spArrays := ⟨⟨f4, _, ok_arrays F4 names B mA, b4, g4, F4.kp⟩⟩
  have arrsK : Fnc P w K mg base CX0 3 "are_arrays" ["value"] (spArrK K) := ⟨⟨f4, _, ok_arraysK F4 names B mA, b4, g4, F4.kp⟩⟩
  have lens : Fnc P w K mg base CX0 1 "lengths_in" ["arrays"] spLens := ⟨⟨f5, _, ok_lens F5 B, b5, g5, F5.kp⟩⟩
  have lensK : Fnc P w K mg base CX0 1 "lengths_in" ["arrays"] (spLensK K) := ⟨⟨f5, _, ok_lensK F5 B, b5, g5, F5.kp⟩⟩
  have words : Fnc P w K mg base CX0 2 "words_in" ["arrays", "positions", "values"] spWords := ⟨⟨f6, _, ok_words F6 lens B, b6, g6, F6.kp⟩⟩
  have wordsK : Fnc P w K mg base CX0 2 "words_in" ["arrays", "positions", "values"] (spWordsK K) := ⟨⟨f6, _, ok_wordsK F6 lensK B, b6, g6, F6.kp⟩⟩
  have fof : Fnc P w K mg base CX0 4 "is_frame_of" ["arrays", "positions", "values"] spFrameOf := ⟨⟨f7, _, ok_frameOf F7 arrs names words B mP mV, b7, g7, F7.kp⟩⟩
  have fofK : Fnc P w K mg base CX0 4 "is_frame_of" ["arrays", "positions", "values"] (spFrOfK K) := ⟨⟨f7, _, ok_frOfK F7 arrsK namesK wordsK B mP mV, b7, g7, F7.kp⟩⟩
  have wtx : Fnc P w K mg base CX0 1 "words_text" ["words"] (spWT K) := ⟨⟨f12, _, ok_wt F12 B, b12, g12, F12.kp⟩⟩
  have atx : Fnc P w K mg base CX0 2 "arrays_text" ["arrays"] spAT := ⟨⟨f13, _, ok_at F13 wtx, b13, g13, F13.kp⟩⟩
  have raised : Fnc P w K mg base CX0 1 "raised" ["term", "more"] spRaised := ⟨⟨f11, _, ok_raised F11, b11, g11, F11.kp⟩⟩
  have creel : Fnc P w K mg base CX0 1 "_law_creel" ["_law_script", "_law_at"] (spCreel K) := ⟨⟨f14, _, ok_creel F14 m_len m_int m_abs m_max, b14, g14, F14.kp⟩⟩
  have fish : Fnc P w K mg base CX0 1 "_law_fish" ["_law_creel_here", "_law_total"] spFish := ⟨⟨f15, _, ok_fish F15 m_int, b15, g15, F15.kp⟩⟩
  have one : Fnc P w K mg base CX0 2 "_law_one_of" ["_law_creel_here", "_law_items"] spOne := ⟨⟨f16, _, ok_one F16 F15 b15 g15 m_int m_len, b16, g16, F16.kp⟩⟩
  have few0 : Fnc P w K mg base CX0 2 "_law_few_of" ["_law_creel_here", "_law_items", "_law_count"] spFew := ⟨⟨f17, _, ok_few F17 fish B m_min, b17, g17, F17.kp⟩⟩
  have few : Fnc P w K mg base CX0 2 "_law_few_of" ["_law_creel_here", "_law_items", "_law_count"] spFewM := ⟨⟨f17, _, ok_fewM F17 fish B m_min, b17, g17, F17.kp⟩⟩
  have pts : Fnc P w K mg base CX0 3 "_law_parts" ["_law_creel_here"] spPts := ⟨⟨f18, _, ok_pts F18 few0 fish B, b18, g18, F18.kp⟩⟩
  have lens2 : Fnc P w K mg base CX0 1 "_law_lengths" ["_law_parts_here"] spLens2 := ⟨⟨f19, _, ok_lens2 F19, b19, g19, F19.kp⟩⟩
  have allOf : Fnc P w K mg base CX0 2 "_law_all_of" ["_law_parts_here"] spAll := ⟨⟨f21, _, ok_all F21 lens2 B, b21, g21, F21.kp⟩⟩
  have num : Fnc P w K mg base CX0 1 "_law_is_number" ["_law_value"] spIg := ⟨⟨f22, _, ok_num F22 B m_bool m_abs, b22, g22, F22.kp⟩⟩
  have plc : Fnc P w K mg base CX0 2 "_law_is_place" ["_law_parts_here", "_law_value", "_law_mine"] spPlc := ⟨⟨f23, _, ok_plc F23 lens2 num B, b23, g23, F23.kp⟩⟩
  have wor : Fnc P w K mg base CX0 3 "_law_is_worth" ["_law_parts_here", "_law_value", "_law_mine"] spWor := ⟨⟨f24, _, ok_wor F24 plc num B, b24, g24, F24.kp⟩⟩
  have lt : Fnc P w K mg base CX0 3 "_law_is_let" ["_law_parts_here"] spLet := ⟨⟨f28, _, ok_let F28 allOf B, b28, g28, F28.kp⟩⟩
  have lens2H : FncH P w K mg base CX0 1 "_law_lengths" ["_law_parts_here"] spLens2 := ⟨⟨f19, _, ok_lens2H F19, b19, g19, F19.kp⟩⟩
  have allH : FncH P w K mg base CX0 2 "_law_all_of" ["_law_parts_here"] spAll := ⟨⟨f21, _, ok_allH F21 lens2H B, b21, g21, F21.kp⟩⟩
  have ltH : FncH P w K mg base CX0 3 "_law_is_let" ["_law_parts_here"] spLet := ⟨⟨f28, _, ok_letH F28 allH B, b28, g28, F28.kp⟩⟩
  have o_isIn : OM P w K mg base CX0 1 C "__contains__" ["self", "value"] (spIn C) := ⟨⟨I3, _, ⟨aI3, nI3⟩, kI3, ok_in FI3 T B, bI3⟩⟩
  have o_isR : OM P w K mg base CX0 1 C "__contains__" ["self", "value"] (spInR C) := ⟨⟨I3, _, ⟨aI3, nI3⟩, kI3, ok_inR FI3 T B, bI3⟩⟩
  have o_len : OM P w K mg base CX0 1 C "__len__" ["self"] (spLen C) := ⟨⟨I4, _, ⟨aI4, nI4⟩, kI4, ok_len FI4 T B, bI4⟩⟩
  have o_fresh : OM P w K mg base CX0 2 C "is_fresh" ["self", "value"] (spFresh C) := ⟨⟨I2, _, ⟨aI2, nI2⟩, kI2, ok_fresh FI2 isn o_isIn, bI2⟩⟩
  have o_has : OM P w K mg base CX0 1 C "has_kind" ["self", "value", "kinds"] (spHas C) := ⟨⟨I1, _, ⟨aI1, nI1⟩, kI1, ok_has FI1 T B, bI1⟩⟩
  have o_str : OM P w K mg base CX0 3 C "__str__" ["self"] (spStr C) := ⟨⟨I6, _, ⟨aI6, nI6⟩, kI6, ok_str FI6 T atx wtx, bI6⟩⟩
  have o_eq : OM P w K mg base CX0 1 C "__eq__" ["self", "other"] (spEq C) := ⟨⟨I5, _, ⟨aI5, nI5⟩, kI5, ok_eq FI5 T S B, bI5⟩⟩
  have o_eqK : OM P w K mg base CX0 1 C "__eq__" ["self", "other"] (spEqK K C) := ⟨⟨I5, _, ⟨aI5, nI5⟩, kI5, ok_eqK FI5 T S B, bI5⟩⟩
  have pos : Fnc P w K mg base CX0 3 "is_position_over" ["frame", "value", "extra"] (spPos K C) := ⟨⟨f8, _, ok_pos F8 T B ig o_has, b8, g8, F8.kp⟩⟩
  have val : Fnc P w K mg base CX0 4 "is_value_over" ["frame", "value", "extra"] (spVal K C) := ⟨⟨f9, _, ok_val F9 T B ig o_has pos, b9, g9, F9.kp⟩⟩
  have own : Fnc P w K mg base CX0 3 "check_own" ["frame", "own"] (spOwnK K C) := ⟨⟨f10, _, ok_ownK F10 T B namesK mO o_fresh, b10, g10, F10.kp⟩⟩
  have o_trm : OM P w K mg base CX0 5 C "_is_term" ["self", "value"] (spTrm C) := ⟨⟨I8, _, ⟨aI8, nI8⟩, kI8, ok_trm FI8 pos val, bI8⟩⟩
  have o_shift : OM P w K mg base (L2.CX P w) 6 C "shifted" ["self", "term", "shift"] (spShift C CT) := ⟨⟨I7, _, ⟨aI7, nI7⟩, kI7, ok_shift FI7 T MPCT o_trm ig raised, bI7⟩⟩
  have mkf : MkF P w K mg base C CI := ⟨gF, I0, _, ⟨cMk, aI0, nI0, cKp⟩, ok_init FI0 T MPCI fof lens, bI0⟩
  have mkfK : MkFK P w K mg base C := ⟨gF, I0, _, ⟨cMk, aI0, nI0, cKp⟩, ok_initK FI0 T MPCI fofK lensK, bI0⟩
  have o_ren : OM P w K mg base (L2.CX P w) 8 C "renamed" ["self", "names"] (spRen C CO) := ⟨⟨I9, _, ⟨aI9, nI9⟩, kI9, ok_ren FI9 ⟨T, B, m_dict, isn, o_isR, o_len, MPCO, mkf⟩, bI9⟩⟩
  have isP0 : OMD P w K mg base CX0 4 C "is_position_term" ["self", "value", "own"] (spIsT K C isPos) [.ref T0] := ⟨⟨J0, _, d0, ⟨aJ0, nJ0⟩, kJ0, ok_isP FJ0 own pos, b0J, v0⟩⟩
  have isV0 : OMD P w K mg base CX0 5 C "is_value_term" ["self", "value", "own"] (spIsT K C isVal) [.ref T1] := ⟨⟨J1, _, d1, ⟨aJ1, nJ1⟩, kJ1, ok_isV FJ1 own val, b1J, v1⟩⟩
  have isPk : OMK P w K mg base CX0 4 C "is_position_term" ["self", "value", "own"] (spIsT K C isPos) 2 ["own"] (fun vs zs => vs ++ zs) := ⟨⟨J0, _, h0, ⟨aJ0, nJ0⟩, kJ0, ok_isP FJ0 own pos, k0J⟩⟩
  have isVk : OMK P w K mg base CX0 5 C "is_value_term" ["self", "value", "own"] (spIsT K C isVal) 2 ["own"] (fun vs zs => vs ++ zs) := ⟨⟨J1, _, h1, ⟨aJ1, nJ1⟩, kJ1, ok_isV FJ1 own val, k1J⟩⟩
  have wi0 : OMD P w K mg base (L2N.CX P w) 7 C "with_names" nWith (spWith0 K C A0 A1 A2) [.ref A0, .ref A1, .ref A2] := ⟨⟨J2, _, d2, ⟨aJ2, nJ2⟩, kJ2, ok_with0 FJ2 T B mkfK sA0 sA1 sA2, b2J, v2⟩⟩
  have wik : OMK P w K mg base (L2N.CX P w) 7 C "with_names" nWith (spWith C CI) 1 ["positions", "arrays", "values"] gW := ⟨⟨J2, _, h2, ⟨aJ2, nJ2⟩, kJ2, ok_with FJ2 T B mkf, k2J⟩⟩
  have frame : Fnc P w K mg base CX0 7 "_law_frame" ["_law_parts_here"] (spFrame C) := ⟨⟨f20, _, ok_frame F20 mkf, b20, g20, F20.kp⟩⟩
  have near : Fnc P w K mg base CX0 3 "_law_term_near" ["_law_creel_here", "_law_parts_here", "_law_mine"] spNear := ⟨⟨f25, _, ok_near F25 ⟨B, fish, one, allOf⟩, b25, g25, F25.kp⟩⟩
  have lsh : Fnc P w K mg base CX0 7 "_law_shifted" ["_law_frame_here", "_law_term", "_law_shift"] (spLSh C) := ⟨⟨f26, _, ok_lsh F26 T o_shift gCT xExCT, b26, g26, F26.kp⟩⟩
  have tf : TF P w K mg base C T0 T1 := ⟨T, B, m_repr, fish, one, few, allOf, near, plc, wor, num, lsh, isPk, isVk, isP0, isV0, sT0, sT1⟩
  have tr : FncG P w K mg base 9 "_law_terms_right" ["_law_creel_here", "_law_frame_here", "_law_parts_here"] (spTR C) := ⟨⟨f27, _, ok_tr F27 tf, b27, g27, F27.kp⟩⟩
  have mf : MF P w K mg base C CI := ⟨T, B, pts, lt, ltH, wik, gCI, xExCI⟩
  have more : Fnc P w K mg base CX0 9 "_law_more" ["_law_creel_here", "_law_frame_here", "_law_parts_here"] (spChg C 20) := ⟨⟨f29, _, ok_more F29 mf, b29, g29, F29.kp⟩⟩
  have off : OF P w K mg base C CO T1 := ⟨T, B, m_dict, m_zip, fish, one, few, allOf, near, wor, o_ren, isV0, sT1, gCO, xExCO⟩
  have oth : Fnc P w K mg base CX0 9 "_law_other" ["_law_creel_here", "_law_frame_here", "_law_parts_here"] (spChg C 50) := ⟨⟨f30, _, ok_oth F30 off, b30, g30, F30.kp⟩⟩
  have rf : RF P w K mg base C := ⟨T, B, fish, pts, frame, more, oth, tr, o_eq, o_str, iHm, iNe, iNc⟩
  have rf2 : RF2 P w K mg base C CO A0 A1 A2 := ⟨wi0, o_ren, o_eqK⟩
  have right : FncG P w K mg base 10 "_law_right" ["_law_creel_here"] spRight := ⟨⟨f31, _, ok_right F31 rf rf2, b31, g31, F31.kp⟩⟩
  exact ok_law F32 (show LG P w K mg base C CO CI CT T0 from ⟨T, B, m_max, m_min, creel, right, mkf, o_ren, o_str, o_shift, isP0, sT0⟩)
end K02

open PySem PySem.W PyProof.Rows
set_option maxRecDepth 100000 in
set_option maxHeartbeats 0 in
theorem PySem.Challenge.cw_lentcells_k02_whole_terms_in_changed_fra_holds : PySem.Challenge.rw_lentcells_k02_whole_terms_in_changed_fra.Holds := by
  w_on; o_law; k_head; (case hw => w_witness2)
  k_fill
  refine K02.walk (l := PySem.Challenge.rw_lentcells_k02_whole_terms_in_changed_fra) rfl rfl (fun w h Y => PySem.W.kIn_of Y) ?F
  case F =>
    intro w mg fa h KX G hmg
    refine' K02.all_mk KX G hmg ?aC ?aCI ?aCO ?aCT ?af0 ?lf0 ?cf0 ?kf0 ?af1 ?lf1 ?cf1 ?kf1 ?af2 ?lf2 ?cf2 ?kf2 ?af3 ?lf3 ?cf3 ?kf3 ?af4 ?lf4 ?cf4 ?kf4 ?af5 ?lf5 ?cf5 ?kf5 ?af6 ?lf6 ?cf6 ?kf6 ?af7 ?lf7 ?cf7 ?kf7 ?af8 ?lf8 ?cf8 ?kf8 ?af9 ?lf9 ?cf9 ?kf9 ?af10 ?lf10 ?cf10 ?kf10 ?af11 ?lf11 ?cf11 ?kf11 ?af12 ?lf12 ?cf12 ?kf12 ?af13 ?lf13 ?cf13 ?kf13 ?af14 ?lf14 ?cf14 ?kf14 ?af15 ?lf15 ?cf15 ?kf15 ?af16 ?lf16 ?cf16 ?kf16 ?af17 ?lf17 ?cf17 ?kf17 ?af18 ?lf18 ?cf18 ?kf18 ?af19 ?lf19 ?cf19 ?kf19 ?af20 ?lf20 ?cf20 ?kf20 ?af21 ?lf21 ?cf21 ?kf21 ?af22 ?lf22 ?cf22 ?kf22 ?af23 ?lf23 ?cf23 ?kf23 ?af24 ?lf24 ?cf24 ?kf24 ?af25 ?lf25 ?cf25 ?kf25 ?af26 ?lf26 ?cf26 ?kf26 ?af27 ?lf27 ?cf27 ?kf27 ?af28 ?lf28 ?cf28 ?kf28 ?af29 ?lf29 ?cf29 ?kf29 ?af30 ?lf30 ?cf30 ?kf30 ?af31 ?lf31 ?cf31 ?kf31 ?af32 ?lf32 ?cf32 ?kf32 ?aI0 ?lI0 ?cI0 ?kI0 ?nI0 ?aI1 ?lI1 ?cI1 ?kI1 ?nI1 ?aI2 ?lI2 ?cI2 ?kI2 ?nI2 ?aI3 ?lI3 ?cI3 ?kI3 ?nI3 ?aI4 ?lI4 ?cI4 ?kI4 ?nI4 ?aI5 ?lI5 ?cI5 ?kI5 ?nI5 ?aI6 ?lI6 ?cI6 ?kI6 ?nI6 ?aI7 ?lI7 ?cI7 ?kI7 ?nI7 ?aI8 ?lI8 ?cI8 ?kI8 ?nI8 ?aI9 ?lI9 ?cI9 ?kI9 ?nI9 ?aJ0 ?lJ0 ?cJ0 ?kJ0 ?nJ0 ?dT0 ?tT0 ?aJ1 ?lJ1 ?cJ1 ?kJ1 ?nJ1 ?dT1 ?tT1 ?aJ2 ?lJ2 ?cJ2 ?kJ2 ?nJ2 ?dA0 ?tA0 ?dA1 ?tA1 ?dA2 ?tA2 ?cPg ?cHd ?cPo ?cSa ?cNo ?cMk ?cKp ?xOvCI ?xKpCI ?xBeCI ?xTyCI ?xExCI ?xOvCO ?xKpCO ?xBeCO ?xTyCO ?xExCO ?xOvCT ?xKpCT ?xBeCT ?xTyCT ?xExCT ?iHa ?iHn ?iHt ?iHm ?iKt ?iKl ?iNe ?iNc ?aL ?aM ?aA ?aP ?aV ?aO ?aG ?z_isinstance ?z_str ?z_tuple ?z_len ?z_all ?z_set ?z_int ?z_list ?z_range ?z_min ?z_max ?z_abs ?z_repr ?z_bool ?z_dict ?z_zip
    (case aC => k_is)
    (case aCI => k_is)
    (case aCO => k_is)
    (case aCT => k_is)
    (case af0 => k_is)
    (case lf0 => k_is)
    (case cf0 => k_is)
    (case kf0 => k_is)
    (case af1 => k_is)
    (case lf1 => k_is)
    (case cf1 => k_is)
    (case kf1 => k_is)
    (case af2 => k_is)
    (case lf2 => k_is)
    (case cf2 => k_is)
    (case kf2 => k_is)
    (case af3 => k_is)
    (case lf3 => k_is)
    (case cf3 => k_is)
    (case kf3 => k_is)
    (case af4 => k_is)
    (case lf4 => k_is)
    (case cf4 => k_is)
    (case kf4 => k_is)
    (case af5 => k_is)
    (case lf5 => k_is)
    (case cf5 => k_is)
    (case kf5 => k_is)
    (case af6 => k_is)
    (case lf6 => k_is)
    (case cf6 => k_is)
    (case kf6 => k_is)
    (case af7 => k_is)
    (case lf7 => k_is)
    (case cf7 => k_is)
    (case kf7 => k_is)
    (case af8 => k_is)
    (case lf8 => k_is)
    (case cf8 => k_is)
    (case kf8 => k_is)
    (case af9 => k_is)
    (case lf9 => k_is)
    (case cf9 => k_is)
    (case kf9 => k_is)
    (case af10 => k_is)
    (case lf10 => k_is)
    (case cf10 => k_is)
    (case kf10 => k_is)
    (case af11 => k_is)
    (case lf11 => k_is)
    (case cf11 => k_is)
    (case kf11 => k_is)
    (case af12 => k_is)
    (case lf12 => k_is)
    (case cf12 => k_is)
    (case kf12 => k_is)
    (case af13 => k_is)
    (case lf13 => k_is)
    (case cf13 => k_is)
    (case kf13 => k_is)
    (case af14 => k_is)
    (case lf14 => k_is)
    (case cf14 => k_is)
    (case kf14 => k_is)
    (case af15 => k_is)
    (case lf15 => k_is)
    (case cf15 => k_is)
    (case kf15 => k_is)
    (case af16 => k_is)
    (case lf16 => k_is)
    (case cf16 => k_is)
    (case kf16 => k_is)
    (case af17 => k_is)
    (case lf17 => k_is)
    (case cf17 => k_is)
    (case kf17 => k_is)
    (case af18 => k_is)
    (case lf18 => k_is)
    (case cf18 => k_is)
    (case kf18 => k_is)
    (case af19 => k_is)
    (case lf19 => k_is)
    (case cf19 => k_is)
    (case kf19 => k_is)
    (case af20 => k_is)
    (case lf20 => k_is)
    (case cf20 => k_is)
    (case kf20 => k_is)
    (case af21 => k_is)
    (case lf21 => k_is)
    (case cf21 => k_is)
    (case kf21 => k_is)
    (case af22 => k_is)
    (case lf22 => k_is)
    (case cf22 => k_is)
    (case kf22 => k_is)
    (case af23 => k_is)
    (case lf23 => k_is)
    (case cf23 => k_is)
    (case kf23 => k_is)
    (case af24 => k_is)
    (case lf24 => k_is)
    (case cf24 => k_is)
    (case kf24 => k_is)
    (case af25 => k_is)
    (case lf25 => k_is)
    (case cf25 => k_is)
    (case kf25 => k_is)
    (case af26 => k_is)
    (case lf26 => k_is)
    (case cf26 => k_is)
    (case kf26 => k_is)
    (case af27 => k_is)
    (case lf27 => k_is)
    (case cf27 => k_is)
    (case kf27 => k_is)
    (case af28 => k_is)
    (case lf28 => k_is)
    (case cf28 => k_is)
    (case kf28 => k_is)
    (case af29 => k_is)
    (case lf29 => k_is)
    (case cf29 => k_is)
    (case kf29 => k_is)
    (case af30 => k_is)
    (case lf30 => k_is)
    (case cf30 => k_is)
    (case kf30 => k_is)
    (case af31 => k_is)
    (case lf31 => k_is)
    (case cf31 => k_is)
    (case kf31 => k_is)
    (case af32 => k_is)
    (case lf32 => k_is)
    (case cf32 => k_is)
    (case kf32 => k_is)
    (case aI0 => k_is)
    (case lI0 => k_is)
    (case cI0 => k_is)
    (case kI0 => k_is)
    (case nI0 => k_is)
    (case aI1 => k_is)
    (case lI1 => k_is)
    (case cI1 => k_is)
    (case kI1 => k_is)
    (case nI1 => k_is)
    (case aI2 => k_is)
    (case lI2 => k_is)
    (case cI2 => k_is)
    (case kI2 => k_is)
    (case nI2 => k_is)
    (case aI3 => k_is)
    (case lI3 => k_is)
    (case cI3 => k_is)
    (case kI3 => k_is)
    (case nI3 => k_is)
    (case aI4 => k_is)
    (case lI4 => k_is)
    (case cI4 => k_is)
    (case kI4 => k_is)
    (case nI4 => k_is)
    (case aI5 => k_is)
    (case lI5 => k_is)
    (case cI5 => k_is)
    (case kI5 => k_is)
    (case nI5 => k_is)
    (case aI6 => k_is)
    (case lI6 => k_is)
    (case cI6 => k_is)
    (case kI6 => k_is)
    (case nI6 => k_is)
    (case aI7 => k_is)
    (case lI7 => k_is)
    (case cI7 => k_is)
    (case kI7 => k_is)
    (case nI7 => k_is)
    (case aI8 => k_is)
    (case lI8 => k_is)
    (case cI8 => k_is)
    (case kI8 => k_is)
    (case nI8 => k_is)
    (case aI9 => k_is)
    (case lI9 => k_is)
    (case cI9 => k_is)
    (case kI9 => k_is)
    (case nI9 => k_is)
    (case aJ0 => k_is)
    (case lJ0 => k_is)
    (case cJ0 => k_is)
    (case kJ0 => k_is)
    (case nJ0 => k_is)
    (case dT0 => k_is)
    (case tT0 => k_is)
    (case aJ1 => k_is)
    (case lJ1 => k_is)
    (case cJ1 => k_is)
    (case kJ1 => k_is)
    (case nJ1 => k_is)
    (case dT1 => k_is)
    (case tT1 => k_is)
    (case aJ2 => k_is)
    (case lJ2 => k_is)
    (case cJ2 => k_is)
    (case kJ2 => k_is)
    (case nJ2 => k_is)
    (case dA0 => k_is)
    (case tA0 => k_is)
    (case dA1 => k_is)
    (case tA1 => k_is)
    (case dA2 => k_is)
    (case tA2 => k_is)
    (case cPg => kernel_rfl)
    (case cHd => kernel_rfl)
    (case cPo => kernel_rfl)
    (case cSa => k_is)
    (case cNo => kernel_rfl)
    (case cMk => kernel_rfl)
    (case cKp => k_is)
    (case xOvCI => kernel_rfl)
    (case xKpCI => k_is)
    (case xBeCI => k_is)
    (case xTyCI => k_is)
    (case xExCI => kernel_rfl)
    (case xOvCO => kernel_rfl)
    (case xKpCO => k_is)
    (case xBeCO => k_is)
    (case xTyCO => k_is)
    (case xExCO => kernel_rfl)
    (case xOvCT => kernel_rfl)
    (case xKpCT => k_is)
    (case xBeCT => k_is)
    (case xTyCT => k_is)
    (case xExCT => kernel_rfl)
    (case iHa => k_is)
    (case iHn => k_is)
    (case iHt => k_is)
    (case iHm => k_is)
    (case iKt => kernel_rfl)
    (case iKl => kernel_rfl)
    (case iNe => k_is)
    (case iNc => kernel_rfl)
    (case aL => k_is)
    (case aM => k_is)
    (case aA => k_is)
    (case aP => k_is)
    (case aV => k_is)
    (case aO => k_is)
    (case aG => k_is)
    (case z_isinstance => k_is)
    (case z_str => k_is)
    (case z_tuple => k_is)
    (case z_len => k_is)
    (case z_all => k_is)
    (case z_set => k_is)
    (case z_int => k_is)
    (case z_list => k_is)
    (case z_range => k_is)
    (case z_min => k_is)
    (case z_max => k_is)
    (case z_abs => k_is)
    (case z_repr => k_is)
    (case z_bool => k_is)
    (case z_dict => k_is)
    (case z_zip => k_is)

